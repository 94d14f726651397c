"""No mill yet, create again, and calls that fail."""

import unittest

from helper import HUGE, LOOKS, add_roll, ask, best_period, call, cheapest_plan, cost_of_single_roll
from helper import cost_without_regrinding, create, get_roll, has_rising_costs, joint_savings, last, lowest_cost
from helper import lowest_cost_for_visit, mean_weekly_cost, next_regrind, plan_cost, remove_roll, run_planned_week
from helper import run_week, set_age, set_visit_cost, status

ORDINARY = [add_roll(20, [1, 5, 9]), remove_roll(0), set_age(0, 1), set_visit_cost(5), get_roll(0),
            mean_weekly_cost(0, 2), best_period(0), cheapest_plan(2), lowest_cost(2), plan_cost([0]), plan_cost([]),
            run_week(0), run_planned_week(1), cost_without_regrinding(0), cost_of_single_roll(0, 0),
            lowest_cost_for_visit(0, 0), joint_savings(0), next_regrind(0, 0), has_rising_costs(0), status()]

# Calls that would also fail with a mill there.
WRONG = [add_roll(1000, [1]), add_roll(1, []), add_roll(1, [1] * 10), add_roll(1, [100]), add_roll(HUGE, [HUGE]),
         remove_roll(HUGE), set_age(0, 100), set_age(HUGE, HUGE), set_visit_cost(1000), set_visit_cost(HUGE),
         get_roll(HUGE), mean_weekly_cost(0, 0), mean_weekly_cost(HUGE, HUGE), best_period(HUGE),
         cheapest_plan(6), cheapest_plan(HUGE), lowest_cost(6), lowest_cost(HUGE),
         plan_cost([HUGE]), plan_cost([0] * 6), plan_cost([HUGE] * 10), run_week(8), run_week(HUGE),
         run_planned_week(0), run_planned_week(6), run_planned_week(HUGE), cost_without_regrinding(6),
         cost_without_regrinding(HUGE), cost_of_single_roll(0, 6), cost_of_single_roll(HUGE, HUGE),
         lowest_cost_for_visit(1000, 0), lowest_cost_for_visit(0, 6), lowest_cost_for_visit(HUGE, HUGE),
         joint_savings(6), joint_savings(HUGE), next_regrind(0, 6), next_regrind(HUGE, HUGE), has_rising_costs(HUGE)]

EVERY_OTHER = ORDINARY + WRONG


class TestNoMill(unittest.TestCase):
    def test_each_call_but_create_is_among_these(self):
        self.assertEqual({one[0] for one in ORDINARY}, set(range(1, 20)))
        self.assertEqual({one[0] for one in WRONG}, set(range(1, 19)))

    def test_numbers_of_every_size(self):
        lengths = {1: range(1, 12), 3: [2], 6: [2], 10: range(11), 14: [2], 15: [2], 17: [2], 19: [0]}
        for place in range(1, 20):
            for length in lengths.get(place, [1]):
                for number in (0, 1, 6, 1000, HUGE):
                    self.assertEqual(ask(call(place, *[number] * length)), [[-11]])

    def test_every_other_call_is_answered_minus_11(self):
        for one in EVERY_OTHER:
            self.assertEqual(ask(one), [[-11]])

    def test_one_behind_another(self):
        self.assertEqual(ask(*EVERY_OTHER), [[-11]] * len(EVERY_OTHER))

    def test_a_failed_create_makes_no_mill(self):
        told = ask(create(1000), *EVERY_OTHER, create(HUGE), get_roll(0))
        self.assertEqual(told, [[-22]] + [[-11]] * len(EVERY_OTHER) + [[-22], [-11]])

    def test_calls_ahead_of_create_leave_nothing(self):
        told = ask(*EVERY_OTHER, create(3), get_roll(0), set_visit_cost(0), cheapest_plan(1))
        self.assertEqual(told[-4:], [[0], [-2], [3], [0, 0]])


class TestCreateAgain(unittest.TestCase):
    ROLLS = [add_roll(20, [1, 5, 9]), add_roll(3, [4]), set_age(0, 6), set_age(1, 7)]

    def test_replaces_the_mill(self):
        told = ask(create(10), *self.ROLLS, create(30), get_roll(0), cheapest_plan(3), add_roll(1, [2]),
                   get_roll(0), get_roll(1), set_visit_cost(0))
        self.assertEqual(told[5:], [[0], [-2], [0, 0, 0, 0], [0], [0, 1, 2], [-2], [30]])

    def test_with_the_same_visit_cost(self):
        told = ask(create(10), *self.ROLLS, create(10), get_roll(0), set_visit_cost(0))
        self.assertEqual(told[5:], [[0], [-2], [10]])

    def test_makes_room_for_rolls(self):
        roll = add_roll(1, [1])
        told = ask(create(0), roll, roll, roll, roll, create(0), roll, roll, roll, roll)
        self.assertEqual(told, [[0], [0], [1], [2], [-28]] * 2)

    def test_a_failed_create_keeps_the_mill(self):
        for visit_cost in (1000, HUGE):
            before = ask(create(10), *self.ROLLS, *LOOKS)[5:]
            told = ask(create(10), *self.ROLLS, create(visit_cost), *LOOKS, set_visit_cost(0))[5:]
            self.assertEqual(told, [[-22], *before, [10]])


class TestFailedCalls(unittest.TestCase):
    MILL = [create(10), add_roll(20, [1, 5, 90]), add_roll(3, [40, 41]), set_age(0, 6), set_age(1, 7), run_week(2)]
    THIRD = add_roll(7, [0, 8])

    def failing(self):
        outside = [create(1000), add_roll(1000, [1]), add_roll(1, []), add_roll(1, [1] * 9), add_roll(1, [1, 2, 100]),
                   set_age(0, 100), set_age(1, HUGE), set_visit_cost(1000), mean_weekly_cost(0, 0),
                   mean_weekly_cost(0, 25), cheapest_plan(6), lowest_cost(6), plan_cost([0] * 6), plan_cost([8, 0]),
                   plan_cost([1, 2, 3, 0, 8]), run_week(8), run_week(HUGE), run_planned_week(0), run_planned_week(6),
                   cost_without_regrinding(6), cost_of_single_roll(0, 6), lowest_cost_for_visit(1000, 2),
                   lowest_cost_for_visit(999, 6), joint_savings(6), next_regrind(1, 6)]
        absent = [remove_roll(3), set_age(3, 0), set_age(3, 100), get_roll(3), mean_weekly_cost(3, 1),
                  mean_weekly_cost(3, 0), best_period(3), cost_of_single_roll(3, 1), cost_of_single_roll(3, 6),
                  next_regrind(3, 1), next_regrind(3, 6), has_rising_costs(3)]
        never = [next_regrind(0, 0), next_regrind(1, 0)]
        codes = [(one, -22) for one in outside] + [(one, -2) for one in absent] + [(one, -33) for one in never]
        self.assertLess(len(self.MILL) + len(codes) + len(LOOKS), 61)
        return codes

    def test_answer_is_the_code_alone_and_the_state_stays(self):
        before = ask(*self.MILL, *LOOKS)[len(self.MILL):]
        for one, code in self.failing():
            told = ask(*self.MILL, one, *LOOKS)[len(self.MILL):]
            self.assertEqual(told, [[code], *before])

    def test_with_three_rolls(self):
        full = [*self.MILL, self.THIRD]
        before = ask(*full, *LOOKS)[len(full):]
        for one, code in [*self.failing(), (add_roll(1, [1]), -28)]:
            self.assertEqual(ask(*full, one, *LOOKS)[len(full):], [[code], *before])

    def test_one_behind_another(self):
        failing = self.failing()
        before = ask(*self.MILL, *LOOKS)[len(self.MILL):]
        told = ask(*self.MILL, *[one for one, _ in failing], *LOOKS)[len(self.MILL):]
        self.assertEqual(told, [[code] for _, code in failing] + before)


class TestAskingCalls(unittest.TestCase):
    def test_calls_that_only_ask_leave_the_state(self):
        mill = TestFailedCalls.MILL
        told = ask(*mill, *LOOKS, *LOOKS, cheapest_plan(5), lowest_cost(5), best_period(1), mean_weekly_cost(1, 24),
                   plan_cost([1, 2, 3]), cost_without_regrinding(5), cost_of_single_roll(1, 5),
                   lowest_cost_for_visit(999, 5), joint_savings(5), next_regrind(0, 5), has_rising_costs(0), status(),
                   *LOOKS)[len(mill):]
        self.assertEqual(told[:len(LOOKS)], told[len(LOOKS):2 * len(LOOKS)])
        self.assertEqual(told[:len(LOOKS)], told[-len(LOOKS):])

    def test_plans_follow_each_change(self):
        told = ask(create(0), cheapest_plan(1), add_roll(9, [4, 6]), cheapest_plan(1), set_age(0, 1), cheapest_plan(1),
                   set_visit_cost(3), add_roll(0, [0, 50]), set_age(1, 1), cheapest_plan(1), remove_roll(0),
                   cheapest_plan(1), create(0), cheapest_plan(1))
        plans = [told[place] for place in (1, 3, 5, 9, 11, 13)]
        self.assertEqual(plans, [[0, 0], [4, 0], [6, 0], [9, 2], [3, 1], [0, 0]])


class TestRollThatDoesNotExist(unittest.TestCase):
    def test_last_roll_is_there_and_the_next_is_not(self):
        for count in range(4):
            mill = [create(0)] + [add_roll(1, [2])] * count
            for roll in range(4):
                for one in (get_roll(roll), set_age(roll, 3), mean_weekly_cost(roll, 1), best_period(roll),
                            cost_of_single_roll(roll, 1), next_regrind(roll, 1), has_rising_costs(roll),
                            remove_roll(roll)):
                    self.assertEqual(last(*mill, one) == [-2], roll >= count)


if __name__ == "__main__":
    unittest.main()
