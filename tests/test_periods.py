"""mean_weekly_cost and best_period."""

import unittest
from fractions import Fraction

from helper import HUGE, DrawnMill, add_roll, ask, best_period, create, last, mean_weekly_cost, set_age


def mean_of(visit_cost, regrind_cost, weekly_costs, period):
    return last(create(visit_cost), add_roll(regrind_cost, weekly_costs), mean_weekly_cost(0, period))


def best_of(visit_cost, regrind_cost, weekly_costs):
    return last(create(visit_cost), add_roll(regrind_cost, weekly_costs), best_period(0))


class TestMeanWeeklyCost(unittest.TestCase):
    def test_one_period_divided_by_its_weeks(self):
        self.assertEqual(mean_of(10, 20, [1, 5, 9], 1), [0, 31, 1])
        self.assertEqual(mean_of(10, 20, [1, 5, 9], 2), [0, 18, 1])
        self.assertEqual(mean_of(10, 20, [1, 5, 9], 3), [0, 15, 1])
        self.assertEqual(mean_of(10, 20, [1, 5, 9], 4), [0, 27, 2])

    def test_last_weekly_cost_holds_for_greater_ages(self):
        self.assertEqual(mean_of(0, 0, [1, 5], 7), [0, 31, 7])
        self.assertEqual(mean_of(0, 0, [1, 2, 3, 4, 5, 6, 7, 8], 24), [0, 41, 6])
        self.assertEqual(mean_of(999, 999, [99], 24), [0, 729, 4])

    def test_lowest_terms(self):
        self.assertEqual(mean_of(1, 1, [1], 2), [0, 2, 1])
        self.assertEqual(mean_of(3, 4, [0], 7), [0, 1, 1])
        self.assertEqual(mean_of(3, 4, [0], 14), [0, 1, 2])
        self.assertEqual(mean_of(3, 3, [0], 9), [0, 2, 3])
        self.assertEqual(mean_of(0, 5, [0], 3), [0, 5, 3])
        self.assertEqual(mean_of(5, 10, [0], 10), [0, 3, 2])

    def test_zero_is_0_1(self):
        for period in range(1, 25):
            self.assertEqual(mean_of(0, 0, [0], period), [0, 0, 1])

    def test_age_of_the_roll_does_not_count(self):
        told = last(create(10), add_roll(20, [1, 5, 9]), set_age(0, 50), mean_weekly_cost(0, 2))
        self.assertEqual(told, [0, 18, 1])

    def test_limits_of_the_period(self):
        self.assertEqual(mean_of(0, 24, [1], 1), [0, 25, 1])
        self.assertEqual(mean_of(0, 24, [1], 24), [0, 2, 1])
        for period in (0, 25, 26, HUGE):
            self.assertEqual(mean_of(0, 24, [1], period), [-22])

    def test_roll_that_does_not_exist_comes_first(self):
        for period in (0, 1, 24, 25, HUGE):
            self.assertEqual(last(create(0), mean_weekly_cost(0, period)), [-2])
            for roll in (1, 3, HUGE):
                self.assertEqual(last(create(0), add_roll(1, [1]), mean_weekly_cost(roll, period)), [-2])

    def test_only_the_named_roll_counts(self):
        told = ask(create(1), add_roll(2, [3]), add_roll(20, [30]), mean_weekly_cost(0, 1), mean_weekly_cost(1, 1))
        self.assertEqual(told[-2:], [[0, 6, 1], [0, 51, 1]])

    def test_every_period_of_drawn_rolls(self):
        for seed in range(60):
            mill = DrawnMill(seed, 2)
            wanted = []
            for period in range(1, 25):
                mean = Fraction(mill.mean_sum(1, period), period)
                wanted.append([0, mean.numerator, mean.denominator])
            self.assertEqual(mill.ask(*[mean_weekly_cost(1, period) for period in range(1, 25)]), wanted)


class TestBestPeriod(unittest.TestCase):
    def test_lowest_mean(self):
        self.assertEqual(best_of(10, 20, [1, 5, 9]), [24, 39, 4])
        self.assertEqual(best_of(3, 7, [0, 4, 30]), [2, 7, 1])
        self.assertEqual(best_of(0, 0, [0, 1]), [1, 0, 1])
        self.assertEqual(best_of(1, 5, [2, 3, 4, 90]), [3, 5, 1])
        self.assertEqual(best_of(0, 5, [0, 0, 0, 0, 0, 0, 0, 99]), [7, 5, 7])

    def test_means_that_differ_by_little(self):
        # 21/2 for 2 weeks and 31/3 for 3 weeks: rounded down, both are 10.
        self.assertEqual(best_of(0, 12, [0, 9, 10, 99]), [3, 31, 3])

    def test_ties_go_to_the_smallest(self):
        self.assertEqual(best_of(0, 0, [0]), [1, 0, 1])
        self.assertEqual(best_of(0, 0, [7]), [1, 7, 1])
        self.assertEqual(best_of(2, 3, [0, 5, 5, 5]), [1, 5, 1])
        self.assertEqual(best_of(2, 4, [0, 2, 4, 4, 4]), [2, 4, 1])

    def test_first_and_last_period(self):
        self.assertEqual(best_of(0, 1, [1, 99])[0], 1)
        self.assertEqual(best_of(999, 999, [99, 0]), [24, 699, 8])
        self.assertEqual(best_of(0, 1, [0]), [24, 1, 24])

    def test_age_of_the_roll_does_not_count(self):
        told = last(create(3), add_roll(7, [0, 4, 30]), set_age(0, 9), best_period(0))
        self.assertEqual(told, [2, 7, 1])

    def test_only_the_named_roll_counts(self):
        told = ask(create(3), add_roll(7, [0, 4, 30]), add_roll(2, [0, 5, 5]), best_period(0), best_period(1))
        self.assertEqual(told[-2:], [[2, 7, 1], [1, 5, 1]])

    def test_roll_that_does_not_exist(self):
        self.assertEqual(last(create(0), best_period(0)), [-2])
        for roll in (1, 2, 3, HUGE):
            self.assertEqual(last(create(0), add_roll(1, [1]), best_period(roll)), [-2])

    def test_drawn_rolls(self):
        for seed in range(200):
            mill = DrawnMill(seed, 1, small=seed % 2 == 0)
            mean, period = min((Fraction(mill.mean_sum(0, k), k), k) for k in range(1, 25))
            self.assertEqual(mill.ask(best_period(0)), [[period, mean.numerator, mean.denominator]])


if __name__ == "__main__":
    unittest.main()
