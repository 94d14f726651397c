"""Requirements 1, 3, 4, 5 and 6 over many drawn mills."""

import unittest
from fractions import Fraction

from helper import DrawnMill, ask, best_period, cheapest_plan, lowest_cost, mean_weekly_cost, set_age, set_visit_cost


class TestCheapestPlanIsOptimal(unittest.TestCase):
    def check_against_every_plan(self, mill, weeks):
        self.assertEqual(mill.ask(cheapest_plan(weeks)), [mill.best_of_every_plan(weeks)])

    def test_up_to_two_rolls_and_five_weeks(self):
        for seed in range(60):
            mill = DrawnMill(seed, seed % 3)
            for weeks in range(6):
                self.check_against_every_plan(mill, weeks)

    def test_three_rolls_and_up_to_four_weeks(self):
        for seed in range(20):
            mill = DrawnMill(seed, 3)
            for weeks in range(5):
                self.check_against_every_plan(mill, weeks)

    def test_three_rolls_and_five_weeks(self):
        for seed in range(12):
            self.check_against_every_plan(DrawnMill(seed, 3, small=seed % 3 == 0), 5)


class TestPeriods(unittest.TestCase):
    def means(self, mill, roll):
        told = mill.ask(*[mean_weekly_cost(roll, period) for period in range(1, 25)])
        return [Fraction(numerator, denominator) for _, numerator, denominator in told]

    def test_stopping_rule(self):
        stops = 0
        for seed in range(300):
            mill = DrawnMill(seed, 1, small=seed % 2 == 0)
            mill.rolls[0][1].sort()
            means = self.means(mill, 0)
            for period in range(1, 25):
                if mill.week_cost(0, period) >= means[period - 1]:
                    stops += 1
                    self.assertGreaterEqual(min(means[period - 1:]), means[period - 1])
        self.assertGreater(stops, 300)

    def test_no_period_is_lower_than_the_best(self):
        for seed in range(200):
            mill = DrawnMill(seed)
            for roll in range(len(mill.rolls)):
                means = self.means(mill, roll)
                period, numerator, denominator = mill.ask(best_period(roll))[0]
                self.assertEqual(means[period - 1], Fraction(numerator, denominator))
                self.assertEqual(means[period - 1], min(means))
                self.assertNotIn(means[period - 1], means[:period - 1])


class TestLowestCostNeverFalls(unittest.TestCase):
    def test_with_more_weeks(self):
        for seed in range(150):
            costs = DrawnMill(seed).ask(*[lowest_cost(weeks) for weeks in range(6)])
            self.assertEqual(costs[0], [0])
            self.assertEqual(costs, sorted(costs))

    def test_with_a_higher_visit_cost(self):
        rises = 0
        for seed in range(100):
            mill = DrawnMill(seed)
            calls = []
            for visit_cost in (0, 1, 5, 20, 60, 150, 400, 999):
                calls += [set_visit_cost(visit_cost), lowest_cost(5)]
            costs = mill.ask(*calls)[1::2]
            self.assertEqual(costs, sorted(costs))
            rises += costs[0] != costs[-1]
        self.assertGreater(rises, 20)


class TestFirstWeekAndTheRest(unittest.TestCase):
    def test_cost_is_that_of_the_first_week_and_of_the_rest(self):
        for seed in range(150):
            mill = DrawnMill(seed)
            for weeks in range(5):
                cost, *plan = mill.ask(cheapest_plan(weeks + 1))[0]
                first, ages = mill.week(mill.ages, plan[0])
                aged = [set_age(roll, age) for roll, age in enumerate(ages)]
                rest = ask(*mill.calls(), *aged, cheapest_plan(weeks), lowest_cost(weeks))[-2:]
                self.assertEqual(cost, first + rest[1][0])
                self.assertEqual(plan[1:], rest[0][1:])


if __name__ == "__main__":
    unittest.main()
