"""The document's example, whole."""

import unittest

from rollgrind.mill import answers

from helper import add_roll, ask, best_period, cheapest_plan, create, get_roll, mean_weekly_cost, next_regrind
from helper import reckon, run_week, status

CALLS = [create(10), add_roll(20, [1, 5, 9]), mean_weekly_cost(0, 2), best_period(0), cheapest_plan(2),
         next_regrind(0, 2), run_week(1), status(), get_roll(0)]
RESULTS = [[0], [0], [0, 18, 1], [24, 39, 4], [6, 0, 0], [-33], [31], [1, 31, 10, 1], [1, 20, 1, 5, 9]]


class TestExample(unittest.TestCase):
    def test_each_call(self):
        self.assertEqual(ask(*CALLS), RESULTS)

    def test_number_by_number(self):
        calls = [0, 1, 10, 0, 1, 4, 20, 1, 5, 9, 0, 6, 2, 0, 2, 0, 7, 1, 0, 0, 8, 1, 2, 0,
                 17, 2, 0, 2, 0, 11, 1, 1, 0, 19, 0, 0, 5, 1, 0, 0]
        told = [1, 0, 1, 0, 3, 0, 18, 1, 3, 24, 39, 4, 3, 6, 0, 0,
                1, -33, 1, 31, 4, 1, 31, 10, 1, 5, 1, 20, 1, 5, 9]
        self.assertEqual(answers(calls), told)

    def test_the_other_way_of_reckoning_answers_it_too(self):
        self.assertEqual(reckon(CALLS), RESULTS)


if __name__ == "__main__":
    unittest.main()
