"""Requirements 1 to 6 over many drawn mills."""

import unittest
from fractions import Fraction

from helper import DrawnMill, ask, best_period, cheapest_plan, cost_of_single_roll, has_rising_costs, joint_savings
from helper import lowest_cost, lowest_cost_for_visit, mean_weekly_cost, plan_cost, run_planned_week, run_week
from helper import set_age, set_visit_cost


class TestCheapestPlanIsOptimal(unittest.TestCase):
    def check_against_every_plan(self, mill, weeks):
        self.assertEqual(mill.ask(cheapest_plan(weeks)), [mill.best_of_every_plan(weeks)])

    def test_up_to_two_rolls_and_five_weeks(self):
        for seed in range(60):
            mill = DrawnMill(seed, seed % 3)
            for weeks in range(6):
                self.check_against_every_plan(mill, weeks)

    def test_three_rolls_and_up_to_four_weeks(self):
        for seed in range(20):
            mill = DrawnMill(seed, 3)
            for weeks in range(5):
                self.check_against_every_plan(mill, weeks)

    def test_three_rolls_and_five_weeks(self):
        for seed in range(12):
            self.check_against_every_plan(DrawnMill(seed, 3, small=seed % 3 == 0), 5)

    def told_costs(self, mill, plans):
        """What plan_cost answers for each of these plans, in requests of at most 60 calls."""
        told = []
        room = 60 - len(mill.calls())
        for at in range(0, len(plans), room):
            told += mill.ask(*[plan_cost(plan) for plan in plans[at:at + room]])
        return [answer[0] for answer in told]

    def check_against_plan_cost(self, mill, weeks):
        cost, *plan = mill.ask(cheapest_plan(weeks))[0]
        plans = list(mill.every_plan(weeks))
        costs = self.told_costs(mill, plans)
        self.assertEqual(cost, min(costs))
        self.assertEqual(tuple(plan), plans[costs.index(cost)])

    def test_no_plan_costs_less_by_plan_cost(self):
        for seed in range(60):
            for weeks in range(6):
                self.check_against_plan_cost(DrawnMill(seed, seed % 2, small=seed % 3 == 0), weeks)
        for seed in range(12):
            self.check_against_plan_cost(DrawnMill(seed, 2, small=seed % 3 == 0), 5)
            self.check_against_plan_cost(DrawnMill(seed, 3, small=seed % 3 == 0), 3)
        self.check_against_plan_cost(DrawnMill(5, 3, small=True), 4)


class TestAllRollsTogether(unittest.TestCase):
    def test_never_cost_more_than_every_roll_alone(self):
        less = 0
        for seed in range(150):
            mill = DrawnMill(seed, seed % 4, small=seed % 8 < 4)
            for weeks in range(6):
                together, savings, *alone = mill.ask(
                    lowest_cost(weeks), joint_savings(weeks),
                    *[cost_of_single_roll(roll, weeks) for roll in range(seed % 4)])
                self.assertLessEqual(together[0], sum(answer[0] for answer in alone))
                self.assertGreaterEqual(savings[0], 0)
                less += together[0] < sum(answer[0] for answer in alone)
        self.assertGreater(less, 40)


class TestPeriods(unittest.TestCase):
    def means(self, mill, roll):
        told = mill.ask(*[mean_weekly_cost(roll, period) for period in range(1, 25)])
        return [Fraction(numerator, denominator) for _, numerator, denominator in told]

    def test_stopping_rule(self):
        stops = 0
        for seed in range(600):
            mill = DrawnMill(seed, 1, small=seed % 2 == 0)
            if mill.ask(has_rising_costs(0)) != [[1]]:
                continue
            means = self.means(mill, 0)
            for period in range(1, 25):
                if mill.week_cost(0, period) >= means[period - 1]:
                    stops += 1
                    self.assertGreaterEqual(min(means[period - 1:]), means[period - 1])
        self.assertGreater(stops, 300)

    def test_no_period_is_lower_than_the_best(self):
        for seed in range(200):
            mill = DrawnMill(seed)
            for roll in range(len(mill.rolls)):
                means = self.means(mill, roll)
                period, numerator, denominator = mill.ask(best_period(roll))[0]
                self.assertEqual(means[period - 1], Fraction(numerator, denominator))
                self.assertEqual(means[period - 1], min(means))
                self.assertNotIn(means[period - 1], means[:period - 1])


class TestLowestCostNeverFalls(unittest.TestCase):
    def test_with_more_weeks(self):
        for seed in range(150):
            costs = DrawnMill(seed).ask(*[lowest_cost(weeks) for weeks in range(6)])
            self.assertEqual(costs[0], [0])
            self.assertEqual(costs, sorted(costs))

    def test_with_a_higher_visit_cost(self):
        rises = 0
        for seed in range(100):
            mill = DrawnMill(seed)
            calls = []
            for visit_cost in (0, 1, 5, 20, 60, 150, 400, 999):
                calls += [set_visit_cost(visit_cost), lowest_cost(5)]
            costs = mill.ask(*calls)[1::2]
            self.assertEqual(costs, sorted(costs))
            rises += costs[0] != costs[-1]
        self.assertGreater(rises, 20)

    def test_for_a_higher_visit_cost(self):
        rises = 0
        for seed in range(100):
            for weeks in range(6):
                visit_costs = (0, 1, 2, 3, 5, 20, 60, 150, 400, 998, 999)
                mill = DrawnMill(seed, small=seed % 2 == 0)
                costs = mill.ask(*[lowest_cost_for_visit(visit_cost, weeks) for visit_cost in visit_costs])
                self.assertEqual(costs, sorted(costs))
                rises += costs[0] != costs[-1]
        self.assertGreater(rises, 100)


class TestFirstWeekAndTheRest(unittest.TestCase):
    def test_cost_is_that_of_the_first_week_and_of_the_rest(self):
        for seed in range(150):
            mill = DrawnMill(seed)
            for weeks in range(5):
                cost, *plan = mill.ask(cheapest_plan(weeks + 1))[0]
                first, ages = mill.week(mill.ages, plan[0])
                aged = [set_age(roll, age) for roll, age in enumerate(ages)]
                rest = ask(*mill.calls(), *aged, cheapest_plan(weeks), lowest_cost(weeks))[-2:]
                self.assertEqual(cost, first + rest[1][0])
                self.assertEqual(plan[1:], rest[0][1:])

    def test_by_running_the_planned_week(self):
        for seed in range(150):
            mill = DrawnMill(seed, seed % 4, small=seed % 8 < 4)
            for weeks in range(5):
                told = mill.ask(lowest_cost(weeks + 1), cheapest_plan(weeks + 1), run_planned_week(weeks + 1),
                                lowest_cost(weeks), cheapest_plan(weeks))
                cost, plan, week, rest, later = told
                self.assertEqual(cost[0], week[1] + rest[0])
                self.assertEqual(plan, [cost[0], week[0], *later[1:]])

    def test_no_other_first_week_is_better(self):
        for seed in range(100):
            mill = DrawnMill(seed, seed % 4, small=seed % 8 < 4)
            for weeks in range(5):
                ways = []
                for chosen in range(2 ** len(mill.rolls)):
                    week, rest = mill.ask(run_week(chosen), lowest_cost(weeks))
                    ways.append(week[0] + rest[0])
                cost, first = mill.ask(lowest_cost(weeks + 1), run_planned_week(weeks + 1))
                self.assertEqual(cost[0], min(ways))
                self.assertEqual(first[0], ways.index(min(ways)))


if __name__ == "__main__":
    unittest.main()
