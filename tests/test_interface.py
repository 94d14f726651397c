"""How the calls are read and the answers told, and that nothing is kept."""

import unittest

from rollgrind.mill import answers

from helper import HUGE, DrawnMill, add_roll, ask, best_period, call, cheapest_plan, cost_of_single_roll
from helper import cost_without_regrinding, create, get_roll, has_rising_costs, joint_savings, lowest_cost
from helper import lowest_cost_for_visit, mean_weekly_cost, next_regrind, plan_cost, remove_roll, run_planned_week
from helper import run_week, set_age, set_visit_cost, status

MIXED = [lowest_cost(1), create(1000), create(10), add_roll(20, [1, 5, 9]), add_roll(3, [4] * 8), add_roll(3, []),
         set_age(1, 99), cheapest_plan(5), best_period(0), mean_weekly_cost(1, 7), get_roll(1), get_roll(2),
         plan_cost([]), plan_cost([3, 0, 1]), plan_cost([0] * 10), run_week(2), run_week(HUGE), run_planned_week(4),
         cost_without_regrinding(5), cost_of_single_roll(1, 5), lowest_cost_for_visit(0, 5), joint_savings(5),
         next_regrind(0, 5), next_regrind(0, 0), has_rising_costs(0), has_rising_costs(9), status(),
         set_visit_cost(HUGE), remove_roll(0), get_roll(0), lowest_cost(5), create(0), cheapest_plan(3), status()]


def joined(calls):
    return [number for one in calls for number in one]


class TestTold(unittest.TestCase):
    def test_how_many_numbers_then_these(self):
        self.assertEqual(answers([0, 1, 7, 0]), [1, 0])
        self.assertEqual(answers([0, 1, 7, 0, 8, 1, 5, 0]), [1, 0, 6, 0, 0, 0, 0, 0, 0])
        self.assertEqual(answers([0, 1, 7, 0, 8, 1, 0, 0]), [1, 0, 1, 0])
        self.assertEqual(answers([0, 1, 7, 0, 1, 3, 5, 6, 7, 0, 5, 1, 0, 0]), [1, 0, 1, 0, 4, 0, 5, 6, 7])
        self.assertEqual(answers([5, 1, 0, 0]), [1, -11])

    def test_lists_of_every_length(self):
        for count in range(11):
            calls = [0, 1, 0, 0, 1, 1 + count, 9] + [5] * count + [0, 4, 1, 1, 0]
            added = 0 if 1 <= count <= 8 else -22
            self.assertEqual(answers(calls), [1, 0, 1, added, 1, 0])

    def test_zeros_within_a_call_do_not_end_it(self):
        calls = [0, 1, 0, 0, 1, 5, 0, 0, 0, 0, 0, 0, 3, 2, 0, 0, 0, 5, 1, 0, 0]
        self.assertEqual(answers(calls), [1, 0, 1, 0, 1, 0, 6, 0, 0, 0, 0, 0, 0])

    def test_plans_of_every_length(self):
        for count in range(11):
            calls = [0, 1, 7, 0, 1, 2, 5, 6, 0, 10, count] + [1] * count + [0, 19, 0, 0]
            cost = 18 * count if count <= 5 else -22
            self.assertEqual(answers(calls), [1, 0, 1, 0, 1, cost, 4, 0, 0, 7, 1])

    def test_zeros_within_a_plan_do_not_end_it(self):
        calls = [0, 1, 0, 0, 1, 2, 0, 9, 0, 10, 3, 0, 0, 0, 0, 10, 0, 0, 19, 0, 0]
        self.assertEqual(answers(calls), [1, 0, 1, 0, 1, 27, 1, 0, 4, 0, 0, 0, 1])

    def test_form_of_each_answer(self):
        lengths = {5: 5, 6: 3, 7: 3, 8: 4, 12: 2, 19: 4}
        ordinary = [create(7), add_roll(5, [0, 5, 6]), set_age(0, 9), set_visit_cost(1), get_roll(0),
                    mean_weekly_cost(0, 4), best_period(0), cheapest_plan(3), lowest_cost(3), plan_cost([1, 0]),
                    run_week(0), run_planned_week(3), cost_without_regrinding(3), cost_of_single_roll(0, 3),
                    lowest_cost_for_visit(2, 3), joint_savings(3), next_regrind(0, 5), has_rising_costs(0), status(),
                    remove_roll(0)]
        self.assertEqual({one[0] for one in ordinary}, set(range(20)))
        for one, answer in zip(ordinary, ask(*ordinary)):
            self.assertEqual(len(answer), lengths.get(one[0], 1), one)
            self.assertGreaterEqual(min(answer), 0, one)

    def test_calls_are_read_whole_without_a_mill(self):
        lists = [call(10, *[0] * count) for count in range(11)]
        others = [call(place, 0, 0) for place in (14, 15, 17)] + [status()]
        told = ask(*lists, *others, create(4), set_visit_cost(1))
        self.assertEqual(told, [[-11]] * 15 + [[0], [4]])

    def test_sixty_calls(self):
        calls = [create(999)] + [add_roll(999, [99] * 8)] * 3 + [cheapest_plan(5)] * 56
        told = ask(*calls)
        self.assertEqual(told, [[0], [0], [1], [2]] + [[1485, 0, 0, 0, 0, 0]] * 56)
        weeks = [create(999)] + [add_roll(999, [99] * 8)] * 3 + [run_week(7)] * 55 + [status()]
        self.assertEqual(ask(*weeks)[4:], [[4293]] * 55 + [[55, 236115, 999, 3]])
        longest = [add_roll(HUGE, [HUGE] * 10)] * 60
        self.assertEqual(len(joined(longest)), 840)
        self.assertEqual(ask(*longest), [[-11]] * 60)

    def test_whole_numbers_and_lists_only(self):
        told = answers(joined(MIXED))
        self.assertIs(type(told), list)
        self.assertEqual({type(number) for number in told}, {int})

    def test_only_an_error_is_below_0(self):
        for seed in range(50):
            mill = DrawnMill(seed)
            told = mill.ask(get_roll(0), best_period(1), cheapest_plan(5), lowest_cost(4), joint_savings(5),
                            run_planned_week(5), next_regrind(0, 5), status(), get_roll(3))
            for answer in told:
                self.assertTrue(len(answer) == 1 or min(answer) >= 0)
            self.assertEqual(told[-1], [-2])


class TestNothingIsKept(unittest.TestCase):
    def test_list_that_is_handed_in_stays(self):
        calls = joined(MIXED)
        copy = list(calls)
        answers(calls)
        self.assertEqual(calls, copy)

    def test_second_time_answers_the_same(self):
        calls = joined(MIXED)
        first = answers(calls)
        copy = list(first)
        self.assertEqual(answers(calls), copy)
        self.assertEqual(first, copy)

    def test_answers_are_a_new_list_each_time(self):
        calls = joined(MIXED)
        first = answers(calls)
        wanted = list(first)
        first.clear()
        self.assertEqual(answers(calls), wanted)

    def test_no_mill_is_left_from_the_time_before(self):
        answers(joined([create(5), add_roll(1, [2])]))
        self.assertEqual(ask(get_roll(0)), [[-11]])
        self.assertEqual(ask(create(5), get_roll(0)), [[0], [-2]])

    def test_no_weeks_are_left_from_the_time_before(self):
        calls = joined([create(5), add_roll(1, [2]), run_week(1), run_planned_week(2), status(), get_roll(0)])
        first = answers(calls)
        self.assertEqual(first[-9:], [4, 2, 10, 5, 1, 3, 2, 1, 2])
        self.assertEqual(answers(calls), first)
        self.assertEqual(ask(create(5), status()), [[0], [0, 0, 5, 0]])


if __name__ == "__main__":
    unittest.main()
