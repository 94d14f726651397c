"""cheapest_plan and lowest_cost."""

import unittest

from helper import HUGE, DrawnMill, add_roll, ask, cheapest_plan, create, last, lowest_cost, set_age


class TestCheapestPlan(unittest.TestCase):
    def test_no_weeks(self):
        for count in range(4):
            mill = [create(9)] + [add_roll(1, [50, 60])] * count
            self.assertEqual(ask(*mill, cheapest_plan(0), lowest_cost(0))[-2:], [[0], [0]])

    def test_no_rolls(self):
        for weeks in range(6):
            told = ask(create(9), cheapest_plan(weeks), lowest_cost(weeks))
            self.assertEqual(told[1:], [[0] + [0] * weeks, [0]])

    def test_weeks_beyond_their_limit(self):
        for weeks in (6, 7, HUGE):
            for mill in ([create(0)], [create(0), add_roll(1, [1])]):
                self.assertEqual(ask(*mill, cheapest_plan(weeks), lowest_cost(weeks))[-2:], [[-22], [-22]])

    def test_weeks_up_to_their_limit(self):
        told = ask(create(0), add_roll(0, [0, 9]), *[cheapest_plan(weeks) for weeks in range(6)])
        self.assertEqual(told[2:], [[0], [0, 0], [0, 0, 1], [0, 0, 1, 1], [0, 0, 1, 1, 1], [0, 0, 1, 1, 1, 1]])

    def test_regrinding_comes_ahead_of_the_run_of_its_week(self):
        told = last(create(1), add_roll(2, [0, 50]), set_age(0, 1), cheapest_plan(1))
        self.assertEqual(told, [3, 1])

    def test_age_rises_by_1_behind_each_week(self):
        told = last(create(500), add_roll(500, [1, 2, 4, 8, 16, 32, 64]), cheapest_plan(5))
        self.assertEqual(told, [31, 0, 0, 0, 0, 0])
        told = last(create(500), add_roll(500, [1, 2, 4, 8, 16, 32, 64]), set_age(0, 2), cheapest_plan(5))
        self.assertEqual(told, [124, 0, 0, 0, 0, 0])

    def test_age_beyond_the_end_of_weekly_costs(self):
        for age in (1, 2, 3, 98, 99):
            told = ask(create(9), add_roll(9, [1, 7]), set_age(0, age), cheapest_plan(1), cheapest_plan(5))
            self.assertEqual(told[-2:], [[7, 0], [35, 0, 0, 0, 0, 0]])

    def test_rolls_begin_as_they_are_now(self):
        told = ask(create(2), add_roll(3, [0, 4, 20]), cheapest_plan(3), set_age(0, 2), cheapest_plan(3))
        self.assertEqual(told[2:], [[9, 0, 0, 1], [0], [14, 1, 0, 1]])

    def test_rolls_share_a_visit(self):
        # Alone neither roll is worth a visit of 10; together they are.
        both = [add_roll(0, [0, 6]), add_roll(0, [0, 7])]
        ages = [set_age(0, 1), set_age(1, 1)]
        self.assertEqual(last(create(10), *both, *ages, cheapest_plan(1)), [10, 3])
        self.assertEqual(last(create(10), both[0], ages[0], cheapest_plan(1)), [6, 0])
        self.assertEqual(last(create(14), *both, *ages, cheapest_plan(1)), [13, 0])

    def test_roll_i_is_bit_i(self):
        for roll in range(3):
            rolls = [add_roll(5, [0, 50 if number == roll else 1]) for number in range(3)]
            ages = [set_age(number, 1) for number in range(3)]
            self.assertEqual(last(create(5), *rolls, *ages, cheapest_plan(1)), [12, 2 ** roll])

    def test_visit_is_paid_once_and_regrinding_for_each_roll(self):
        rolls = [add_roll(1, [0, 99]), add_roll(2, [0, 99]), add_roll(4, [0, 99])]
        ages = [set_age(number, 1) for number in range(3)]
        self.assertEqual(last(create(8), *rolls, *ages, cheapest_plan(1)), [15, 7])

    def test_ties_go_to_the_lexicographically_smallest_list(self):
        self.assertEqual(last(create(0), add_roll(0, [7]), cheapest_plan(5)), [35, 0, 0, 0, 0, 0])
        free = [add_roll(0, [7])] * 3
        self.assertEqual(last(create(0), *free, cheapest_plan(5)), [105, 0, 0, 0, 0, 0])
        # Regrinding costs just what it saves.
        self.assertEqual(last(create(2), add_roll(3, [0, 5]), set_age(0, 1), cheapest_plan(1)), [5, 0])
        # Regrinding in week 1 costs as much as in week 2, which makes the smaller list.
        self.assertEqual(last(create(0), add_roll(1, [0, 0, 9]), set_age(0, 0), cheapest_plan(3)), [1, 0, 0, 1])
        # One roll is worth the visit; regrinding the other too costs just what it saves.
        worth, even = add_roll(9, [0, 50]), add_roll(9, [0, 9])
        ages = [set_age(0, 1), set_age(1, 1)]
        self.assertEqual(last(create(1), worth, even, *ages, cheapest_plan(1)), [19, 1])
        self.assertEqual(last(create(1), even, worth, *ages, cheapest_plan(1)), [19, 2])

    def test_ties_of_drawn_mills(self):
        for seed in range(150):
            mill = DrawnMill(seed, seed % 4, small=True)
            for weeks in range(4):
                self.assertEqual(mill.ask(cheapest_plan(weeks)), [mill.best_of_every_plan(weeks)])

    def test_highest_costs(self):
        rolls = [add_roll(999, [99] * 8)] * 3
        told = ask(create(999), *rolls, cheapest_plan(5), lowest_cost(5))
        self.assertEqual(told[-2:], [[1485, 0, 0, 0, 0, 0], [1485]])

    def test_falling_weekly_costs(self):
        told = last(create(0), add_roll(0, [9, 3, 1]), cheapest_plan(4))
        self.assertEqual(told, [14, 0, 0, 0, 0])


class TestLowestCost(unittest.TestCase):
    def test_is_the_cost_of_the_cheapest_plan(self):
        for seed in range(100):
            mill = DrawnMill(seed)
            told = mill.ask(*[one(weeks) for weeks in range(6) for one in (lowest_cost, cheapest_plan)])
            for weeks in range(6):
                self.assertEqual(told[2 * weeks], told[2 * weeks + 1][:1])

    def test_ordinary_costs(self):
        told = ask(create(10), add_roll(20, [1, 5, 9]), *[lowest_cost(weeks) for weeks in range(6)])
        self.assertEqual(told[2:], [[0], [1], [6], [15], [24], [33]])


if __name__ == "__main__":
    unittest.main()
