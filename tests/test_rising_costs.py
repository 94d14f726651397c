"""has_rising_costs."""

import itertools
import unittest

from helper import HUGE, add_roll, ask, create, has_rising_costs, last, remove_roll, run_week, set_age


def rising(costs):
    return last(create(0), add_roll(0, costs), has_rising_costs(0))


class TestHasRisingCosts(unittest.TestCase):
    def test_rising(self):
        for costs in ([1, 5, 9], [0, 99], [0, 1, 2, 3, 4, 5, 6, 7], [92, 93, 94, 95, 96, 97, 98, 99]):
            self.assertEqual(rising(costs), [1])

    def test_one_element(self):
        for cost in (0, 1, 99):
            self.assertEqual(rising([cost]), [1])

    def test_equal_neighbours(self):
        for costs in ([0, 0], [7, 7], [3] * 8, [1, 1, 5, 5, 9, 9], [0, 4, 4], [4, 4, 5]):
            self.assertEqual(rising(costs), [1])
        for costs in ([5, 5, 4], [5, 4, 4], [4, 4, 3, 3]):
            self.assertEqual(rising(costs), [0])

    def test_a_fall_at_each_place(self):
        for length in range(2, 9):
            for place in range(1, length):
                for fall in (1, 5):
                    costs = [10 * (number + 1) for number in range(length)]
                    costs[place] = costs[place - 1] - fall
                    self.assertEqual(rising(costs), [0])

    def test_a_fall_below_an_element_that_is_not_the_one_before_it(self):
        # Each compares only with its neighbour, and 6 falls behind 9.
        self.assertEqual(rising([5, 9, 6]), [0])
        self.assertEqual(rising([5, 6, 9]), [1])

    def test_every_short_list(self):
        for length in range(1, 5):
            for costs in itertools.product(range(3), repeat=length):
                self.assertEqual(rising(costs), [int(list(costs) == sorted(costs))])

    def test_only_the_named_roll_counts(self):
        mill = [create(0), add_roll(0, [1, 2]), add_roll(0, [2, 1]), add_roll(0, [3])]
        self.assertEqual(ask(*mill, *[has_rising_costs(roll) for roll in range(4)])[4:], [[1], [0], [1], [-2]])
        self.assertEqual(last(*mill, remove_roll(0), has_rising_costs(0)), [0])

    def test_age_of_the_roll_does_not_count(self):
        told = ask(create(0), add_roll(0, [2, 1]), set_age(0, 99), has_rising_costs(0), run_week(1),
                   has_rising_costs(0))
        self.assertEqual(told[3::2], [[0], [0]])

    def test_roll_that_does_not_exist(self):
        for count in range(4):
            mill = [create(0)] + [add_roll(0, [1])] * count
            for roll in (0, 1, 2, 3, 4, HUGE):
                self.assertEqual(last(*mill, has_rising_costs(roll)), [-2] if roll >= count else [1])


if __name__ == "__main__":
    unittest.main()
