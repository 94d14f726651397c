"""The document's example, as far as the calls 0 to 9 go."""

import unittest

from rollgrind.mill import answers

from helper import add_roll, ask, best_period, cheapest_plan, create, get_roll, mean_weekly_cost, set_age


class TestExample(unittest.TestCase):
    def test_calls_of_the_example(self):
        told = ask(create(10), add_roll(20, [1, 5, 9]), mean_weekly_cost(0, 2), best_period(0), cheapest_plan(2))
        self.assertEqual(told, [[0], [0], [0, 18, 1], [24, 39, 4], [6, 0, 0]])

    def test_roll_of_the_example_after_one_week(self):
        told = ask(create(10), add_roll(20, [1, 5, 9]), set_age(0, 1), get_roll(0))
        self.assertEqual(told[-1], [1, 20, 1, 5, 9])

    def test_example_number_by_number(self):
        calls = [0, 1, 10, 0, 1, 4, 20, 1, 5, 9, 0, 6, 2, 0, 2, 0, 7, 1, 0, 0, 8, 1, 2, 0, 5, 1, 0, 0]
        told = [1, 0, 1, 0, 3, 0, 18, 1, 3, 24, 39, 4, 3, 6, 0, 0, 5, 0, 20, 1, 5, 9]
        self.assertEqual(answers(calls), told)


if __name__ == "__main__":
    unittest.main()
