"""plan_cost, cost_without_regrinding, cost_of_single_roll, lowest_cost_for_visit, joint_savings and next_regrind."""

import unittest

from helper import HUGE, LOOKS, DrawnMill, add_roll, ask, cheapest_plan, cost_of_single_roll, cost_without_regrinding
from helper import create, joint_savings, last, lowest_cost, lowest_cost_for_visit, next_regrind, plan_cost
from helper import remove_roll, run_week, set_age, set_visit_cost, status

ROLLS = [add_roll(20, [1, 5, 9]), add_roll(300, [40, 30]), add_roll(4, [6])]
OUTSIDE_WEEKS = (6, 7, 999, HUGE)


class TestStateStays(unittest.TestCase):
    def check(self, *calls):
        mills = [DrawnMill(seed) for seed in range(12)] + [DrawnMill(seed, 3) for seed in range(4)]
        for mill in mills:
            before = mill.ask(*LOOKS)
            for one in calls:
                self.assertEqual(mill.ask(one, *LOOKS)[1:], before)
            self.assertEqual(mill.ask(*calls, *LOOKS)[len(calls):], before)

    def test_calls_that_only_ask(self):
        self.check(plan_cost([0, 0]), plan_cost([1, 0, 1]), cost_without_regrinding(5), next_regrind(0, 5))
        self.check(*[cost_of_single_roll(roll, 5) for roll in range(3)])
        self.check(*[lowest_cost_for_visit(visit_cost, 5) for visit_cost in (0, 1, 500, 999)])
        self.check(*[joint_savings(weeks) for weeks in range(6)])

    def test_calls_that_fail(self):
        self.check(plan_cost([0] * 6), plan_cost([0, 8]), cost_without_regrinding(6), cost_of_single_roll(0, 6),
                   cost_of_single_roll(3, 0), lowest_cost_for_visit(1000, 0), lowest_cost_for_visit(5, 6),
                   joint_savings(6), next_regrind(0, 6), next_regrind(3, 5), next_regrind(0, 0))


class TestPlanCost(unittest.TestCase):
    MILL = [create(10), ROLLS[0], add_roll(7, [2, 3])]

    def test_empty_plan(self):
        for count in range(4):
            self.assertEqual(last(create(999), *ROLLS[:count], plan_cost([])), [0])
        self.assertEqual(last(*self.MILL, set_age(0, 50), plan_cost([])), [0])

    def test_plans_of_every_length(self):
        told = ask(*self.MILL, *[plan_cost([0] * count) for count in range(11)])[3:]
        self.assertEqual(told, [[0], [3], [11], [23], [35], [47]] + [[-22]] * 5)
        told = ask(*self.MILL, *[plan_cost([3] * count) for count in range(11)])[3:]
        self.assertEqual(told, [[40 * count] for count in range(6)] + [[-22]] * 5)

    def test_sets_of_a_plan(self):
        # Costs of the weeks: 1 + 2; then 10 + 20 + 1 and 3; then 5 and 10 + 7 + 2; then 9 and 3.
        told = ask(*self.MILL, plan_cost([0, 1]), plan_cost([0, 1, 2]), plan_cost([0, 1, 2, 0]))[3:]
        self.assertEqual(told, [[3 + 34], [3 + 34 + 24], [3 + 34 + 24 + 12]])

    def test_order_of_the_sets_counts(self):
        told = ask(create(1), add_roll(1, [0, 1, 50]), plan_cost([1, 0, 0]), plan_cost([0, 0, 1]))
        self.assertEqual(told[2:], [[53], [3]])

    def test_begins_with_the_rolls_as_they_are_now(self):
        told = ask(*self.MILL, set_age(0, 2), plan_cost([0]), run_week(1), plan_cost([0, 0]), plan_cost([2]))
        self.assertEqual(told[4:], [[11], [33], [20], [24]])

    def test_no_rolls(self):
        for count in range(6):
            self.assertEqual(last(create(10), plan_cost([0] * count)), [0])
        for plan in ([1], [0, 1], [1, 0], [HUGE], [0] * 6, [0] * 10, [1] * 10):
            self.assertEqual(last(create(10), plan_cost(plan)), [-22])

    def test_wrong_set_at_each_place(self):
        for count in range(4):
            mill = [create(10), *ROLLS[:count]]
            for length in (1, 2, 5, 6, 10):
                for place in range(length):
                    for wrong in (2 ** count, 2 ** count + 1, 8, 9, 2 ** 31, HUGE):
                        plan = [2 ** count - 1] * length
                        if wrong >= 2 ** count:
                            plan[place] = wrong
                            self.assertEqual(last(*mill, plan_cost(plan)), [-22])

    def test_highest_sets(self):
        for count in range(4):
            mill = [create(10), *ROLLS[:count]]
            told = ask(*mill, plan_cost([2 ** count - 1] * 5))
            alone = [20 + 1, 300 + 40, 4 + 6]
            self.assertEqual(told[-1], [5 * (sum(alone[:count]) + 10) if count else 0])

    def test_set_of_a_removed_roll(self):
        told = ask(*self.MILL, plan_cost([2]), remove_roll(0), plan_cost([2]), plan_cost([1]))
        self.assertEqual(told[3:], [[20], [1], [-22], [19]])

    def test_highest_costs(self):
        mill = [create(999)] + [add_roll(999, [99])] * 3
        self.assertEqual(last(*mill, plan_cost([7] * 5)), [5 * (999 + 3 * 999 + 3 * 99)])

    def test_drawn_plans(self):
        for seed in range(60):
            mill = DrawnMill(seed)
            for weeks in range(6):
                plans = list(mill.every_plan(weeks))
                plans = plans[::len(plans) // 20 + 1]
                told = mill.ask(*[plan_cost(plan) for plan in plans])
                self.assertEqual(told, [[mill.plan_cost(plan)] for plan in plans])


class TestCostWithoutRegrinding(unittest.TestCase):
    def test_each_number_of_weeks(self):
        told = ask(create(10), ROLLS[0], ROLLS[1], *[cost_without_regrinding(weeks) for weeks in range(6)])
        self.assertEqual(told[3:], [[0], [41], [76], [115], [154], [193]])

    def test_even_where_regrinding_is_cheaper(self):
        told = ask(create(0), add_roll(0, [0, 50]), set_age(0, 1), cost_without_regrinding(3), lowest_cost(3))
        self.assertEqual(told[-2:], [[150], [0]])

    def test_begins_with_the_rolls_as_they_are_now(self):
        told = ask(create(10), ROLLS[0], set_age(0, 1), cost_without_regrinding(2), run_week(0),
                   cost_without_regrinding(2), run_week(1), cost_without_regrinding(2))
        self.assertEqual(told[3::2], [[14], [18], [14]])

    def test_weeks_beyond_their_limit(self):
        for weeks in OUTSIDE_WEEKS:
            for count in range(4):
                self.assertEqual(last(create(10), *ROLLS[:count], cost_without_regrinding(weeks)), [-22])

    def test_no_rolls(self):
        for weeks in range(6):
            self.assertEqual(last(create(10), cost_without_regrinding(weeks)), [0])

    def test_is_what_this_plan_costs(self):
        for seed in range(80):
            mill = DrawnMill(seed)
            told = mill.ask(*[cost_without_regrinding(weeks) for weeks in range(6)])
            self.assertEqual(told, [[mill.plan_cost([0] * weeks)] for weeks in range(6)])


class TestCostOfSingleRoll(unittest.TestCase):
    def test_only_the_named_roll_counts(self):
        mill = [create(5), add_roll(3, [0, 50]), add_roll(20, [7]), add_roll(900, [1, 2])]
        told = ask(*mill, *[cost_of_single_roll(roll, 3) for roll in range(3)])
        self.assertEqual(told[4:], [[16], [21], [5]])

    def test_visit_is_not_shared(self):
        # Alone neither roll is worth a visit of 10; together they are.
        mill = [create(10), add_roll(0, [0, 6]), add_roll(0, [0, 7]), set_age(0, 1), set_age(1, 1)]
        told = ask(*mill, cost_of_single_roll(0, 1), cost_of_single_roll(1, 1), lowest_cost(1))
        self.assertEqual(told[-3:], [[6], [7], [10]])

    def test_age_of_the_roll_counts(self):
        mill = [create(100), ROLLS[0], ROLLS[0], set_age(1, 1)]
        told = ask(*mill, cost_of_single_roll(0, 2), cost_of_single_roll(1, 2))
        self.assertEqual(told[-2:], [[6], [14]])

    def test_no_weeks(self):
        self.assertEqual(last(create(10), *ROLLS, set_age(1, 99), cost_of_single_roll(1, 0)), [0])

    def test_errors_in_their_order(self):
        for count in range(4):
            mill = [create(10), *ROLLS[:count]]
            for roll in (0, 1, 2, 3, 4, HUGE):
                for weeks in (0, 1, 5, *OUTSIDE_WEEKS):
                    told = last(*mill, cost_of_single_roll(roll, weeks))
                    wanted = -2 if roll >= count else -22 if weeks > 5 else None
                    if wanted is not None:
                        self.assertEqual(told, [wanted])
                    else:
                        self.assertGreaterEqual(told[0], 0)

    def test_is_the_lowest_cost_of_a_mill_with_this_roll_only(self):
        for seed in range(60):
            mill = DrawnMill(seed)
            for roll, (regrind_cost, costs) in enumerate(mill.rolls):
                alone = [create(mill.visit_cost), add_roll(regrind_cost, costs), set_age(0, mill.ages[roll])]
                told = mill.ask(*[cost_of_single_roll(roll, weeks) for weeks in range(6)])
                self.assertEqual(told, ask(*alone, *[lowest_cost(weeks) for weeks in range(6)])[3:])


class TestLowestCostForVisit(unittest.TestCase):
    MILL = [create(10), add_roll(0, [0, 6]), add_roll(0, [0, 7]), set_age(0, 1), set_age(1, 1)]

    def test_other_visit_costs(self):
        told = ask(*self.MILL, *[lowest_cost_for_visit(visit_cost, 1) for visit_cost in (0, 1, 12, 13, 14, 999)])
        self.assertEqual(told[5:], [[0], [1], [12], [13], [13], [13]])

    def test_visit_cost_of_the_mill_does_not_count(self):
        for own in (0, 10, 999):
            told = last(create(own), *self.MILL[1:], lowest_cost_for_visit(3, 5))
            self.assertEqual(told, [15])

    def test_visit_cost_of_the_mill_stays(self):
        told = ask(*self.MILL, lowest_cost_for_visit(0, 1), lowest_cost(1), status(), set_visit_cost(1))
        self.assertEqual(told[5:], [[0], [10], [0, 0, 10, 2], [10]])

    def test_limits(self):
        for count in range(4):
            mill = [create(10), *ROLLS[:count]]
            for visit_cost in (0, 999, 1000, 1001, HUGE):
                for weeks in (0, 1, 5, *OUTSIDE_WEEKS):
                    told = last(*mill, lowest_cost_for_visit(visit_cost, weeks))
                    if visit_cost > 999 or weeks > 5:
                        self.assertEqual(told, [-22])
                    else:
                        self.assertGreaterEqual(told[0], 0)

    def test_no_weeks_and_no_rolls(self):
        for visit_cost in (0, 999):
            self.assertEqual(last(*self.MILL, lowest_cost_for_visit(visit_cost, 0)), [0])
            self.assertEqual(last(create(10), lowest_cost_for_visit(visit_cost, 5)), [0])

    def test_is_the_lowest_cost_with_this_visit_cost(self):
        for seed in range(60):
            mill = DrawnMill(seed)
            for visit_cost in (0, 1, 7, 40, 200, 999):
                told = mill.ask(*[lowest_cost_for_visit(visit_cost, weeks) for weeks in range(6)],
                                set_visit_cost(visit_cost), *[lowest_cost(weeks) for weeks in range(6)])
                self.assertEqual(told[:6], told[7:])


class TestJointSavings(unittest.TestCase):
    def test_shared_visits_are_saved(self):
        # Each roll alone is reground in the weeks 1 and 2, for 10 + 1 each time.
        rolls = [add_roll(1, [0, 60]), add_roll(1, [0, 70]), add_roll(1, [0, 80])]
        for count in range(4):
            told = ask(create(10), *rolls[:count], *[joint_savings(weeks) for weeks in range(6)])
            shared = 10 * max(count - 1, 0)
            self.assertEqual(told[1 + count:], [[0], [0]] + [[shared * weeks] for weeks in range(1, 5)])

    def test_rolls_that_are_worth_a_visit_together_only(self):
        told = last(create(10), add_roll(0, [0, 6]), add_roll(0, [0, 7]), set_age(0, 1), set_age(1, 1),
                    joint_savings(1))
        self.assertEqual(told, [3])

    def test_nothing_to_share(self):
        self.assertEqual(last(create(999), *ROLLS, joint_savings(5)), [0])
        self.assertEqual(last(create(0), *ROLLS, set_age(0, 9), joint_savings(5)), [0])
        self.assertEqual(last(create(10), ROLLS[0], set_age(0, 9), joint_savings(5)), [0])
        self.assertEqual(last(create(10), joint_savings(5)), [0])

    def test_weeks_beyond_their_limit(self):
        for weeks in OUTSIDE_WEEKS:
            for count in range(4):
                self.assertEqual(last(create(10), *ROLLS[:count], joint_savings(weeks)), [-22])

    def test_is_the_sum_of_the_single_rolls_minus_all_together(self):
        saved = 0
        for seed in range(100):
            mill = DrawnMill(seed, seed // 2 % 4, small=seed % 2 == 0)
            for weeks in range(6):
                singles = [cost_of_single_roll(roll, weeks) for roll in range(len(mill.rolls))]
                savings, together, *alone = mill.ask(joint_savings(weeks), lowest_cost(weeks), *singles)
                self.assertEqual(savings[0], sum(answer[0] for answer in alone) - together[0])
                saved += savings[0] > 0
        self.assertGreater(saved, 20)


class TestNextRegrind(unittest.TestCase):
    def test_first_week_of_several(self):
        mill = [create(1), add_roll(1, [0, 50])]
        told = ask(*mill, *[next_regrind(0, weeks) for weeks in range(6)])
        self.assertEqual(told[2:], [[-33], [-33], [1], [1], [1], [1]])
        told = ask(*mill, set_age(0, 1), *[next_regrind(0, weeks) for weeks in range(6)])
        self.assertEqual(told[3:], [[-33], [0], [0], [0], [0], [0]])

    def test_each_week_can_be_the_first(self):
        for week in range(5):
            costs = [0] * week + [90]
            told = ask(create(1), add_roll(1, costs or [90]), *[next_regrind(0, weeks) for weeks in range(6)])
            wanted = [[week] if weeks > week > 0 else [-33] for weeks in range(6)]
            self.assertEqual(told[2:], wanted)

    def test_each_roll_has_a_week_of_its_own(self):
        # No visit cost, so each roll is reground when its own costs rise. The last costs 5 in each of the 4 weeks.
        mill = [create(0), add_roll(1, [0, 0, 0, 50]), add_roll(1, [0, 50, 50]), add_roll(900, [5])]
        told = ask(*mill, cheapest_plan(4), *[next_regrind(roll, 4) for roll in range(4)])
        self.assertEqual(told[4:], [[24, 0, 2, 2, 3], [3], [1], [-33], [-2]])

    def test_week_of_the_cheapest_plan_with_ties_as_told(self):
        # Regrinding in week 1 costs as much as in week 2, which makes the smaller list.
        told = ask(create(0), add_roll(1, [0, 0, 9]), cheapest_plan(3), next_regrind(0, 3))
        self.assertEqual(told[-2:], [[1, 0, 0, 1], [2]])

    def test_never(self):
        self.assertEqual(last(create(10), ROLLS[0], next_regrind(0, 2)), [-33])
        self.assertEqual(last(create(999), *ROLLS, set_age(0, 99), next_regrind(0, 5)), [-33])
        for roll in range(3):
            self.assertEqual(last(create(0), *ROLLS, set_age(roll, 99), next_regrind(roll, 0)), [-33])

    def test_errors_in_their_order(self):
        for count in range(4):
            mill = [create(999)] + [add_roll(999, [0])] * count
            for roll in (0, 1, 2, 3, 4, 31, 32, HUGE):
                for weeks in (0, 1, 5, *OUTSIDE_WEEKS):
                    wanted = -2 if roll >= count else -22 if weeks > 5 else -33
                    self.assertEqual(last(*mill, next_regrind(roll, weeks)), [wanted])

    def test_drawn_mills(self):
        found = 0
        for seed in range(80):
            mill = DrawnMill(seed, small=seed % 2 == 0)
            for weeks in range(4):
                plan = mill.best_of_every_plan(weeks)[1:]
                for roll in range(len(mill.rolls)):
                    hits = [week for week, chosen in enumerate(plan) if chosen // 2 ** roll % 2]
                    self.assertEqual(mill.ask(next_regrind(roll, weeks)), [[*hits, -33][:1]])
                    found += len(hits)
        self.assertGreater(found, 40)


if __name__ == "__main__":
    unittest.main()
