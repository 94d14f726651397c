"""create, add_roll, remove_roll, set_age, set_visit_cost and get_roll."""

import unittest

from helper import HUGE, add_roll, ask, create, get_roll, last, lowest_cost, mean_weekly_cost
from helper import remove_roll, set_age, set_visit_cost

ROLL = add_roll(20, [1, 5, 9])


class TestCreate(unittest.TestCase):
    def test_visit_cost_up_to_its_limit(self):
        for visit_cost in (0, 1, 998, 999):
            told = ask(create(visit_cost), set_visit_cost(0))
            self.assertEqual(told, [[0], [visit_cost]])

    def test_visit_cost_beyond_its_limit(self):
        for visit_cost in (1000, 1001, HUGE):
            self.assertEqual(ask(create(visit_cost)), [[-22]])

    def test_new_mill_has_no_rolls(self):
        self.assertEqual(ask(create(5), get_roll(0), lowest_cost(5)), [[0], [-2], [0]])


class TestAddRoll(unittest.TestCase):
    def test_numbers_in_the_order_of_adding(self):
        told = ask(create(0), add_roll(1, [2]), add_roll(3, [4]), add_roll(5, [6]),
                   get_roll(0), get_roll(1), get_roll(2), get_roll(3))
        self.assertEqual(told[1:], [[0], [1], [2], [0, 1, 2], [0, 3, 4], [0, 5, 6], [-2]])

    def test_fourth_roll(self):
        told = ask(create(0), ROLL, ROLL, ROLL, ROLL, get_roll(3))
        self.assertEqual(told, [[0], [0], [1], [2], [-28], [-2]])

    def test_room_again_after_a_removal(self):
        told = ask(create(0), ROLL, ROLL, ROLL, remove_roll(1), ROLL, ROLL)
        self.assertEqual(told[4:], [[2], [2], [-28]])

    def test_number_of_weekly_costs(self):
        for count in range(11):
            costs = list(range(count))
            told = ask(create(0), add_roll(7, costs), get_roll(0))
            if 1 <= count <= 8:
                self.assertEqual(told[1:], [[0], [0, 7, *costs]])
            else:
                self.assertEqual(told[1:], [[-22], [-2]])

    def test_regrind_cost(self):
        for cost in (0, 1, 998, 999):
            self.assertEqual(last(create(0), add_roll(cost, [1]), get_roll(0)), [0, cost, 1])
        for cost in (1000, 1001, HUGE):
            self.assertEqual(ask(create(0), add_roll(cost, [1]), get_roll(0)), [[0], [-22], [-2]])

    def test_each_weekly_cost(self):
        for place in range(8):
            for cost in (0, 98, 99):
                costs = [3] * 8
                costs[place] = cost
                self.assertEqual(last(create(0), add_roll(0, costs), get_roll(0)), [0, 0, *costs])
            for cost in (100, 101, HUGE):
                costs = [3] * 8
                costs[place] = cost
                self.assertEqual(ask(create(0), add_roll(0, costs), get_roll(0)), [[0], [-22], [-2]])

    def test_limits_come_before_the_number_of_rolls(self):
        full = [create(0), ROLL, ROLL, ROLL]
        wrong = [add_roll(1000, [1]), add_roll(HUGE, [1]), add_roll(1, []), add_roll(1, [1] * 9),
                 add_roll(1, [1] * 10), add_roll(1, [100]), add_roll(1, [1, HUGE])]
        for one in wrong:
            self.assertEqual(last(*full, one), [-22])
        self.assertEqual(last(*full, add_roll(999, [99] * 8)), [-28])

    def test_new_roll_has_age_0_beside_older_rolls(self):
        told = ask(create(0), ROLL, set_age(0, 7), ROLL, get_roll(0), get_roll(1))
        self.assertEqual(told[-2:], [[7, 20, 1, 5, 9], [0, 20, 1, 5, 9]])


class TestRemoveRoll(unittest.TestCase):
    ROLLS = [create(0), add_roll(10, [1]), add_roll(20, [2, 3]), add_roll(30, [4, 5, 6]),
             set_age(0, 11), set_age(1, 12), set_age(2, 13)]
    SEEN = [[11, 10, 1], [12, 20, 2, 3], [13, 30, 4, 5, 6]]

    def test_later_numbers_decrease_and_ages_stay(self):
        for roll in range(3):
            told = ask(*self.ROLLS, remove_roll(roll), get_roll(0), get_roll(1), get_roll(2))
            kept = self.SEEN[:roll] + self.SEEN[roll + 1:]
            self.assertEqual(told[-4:], [[2], *kept, [-2]])

    def test_down_to_no_rolls(self):
        told = ask(*self.ROLLS, remove_roll(0), remove_roll(0), get_roll(0), remove_roll(0), remove_roll(0))
        self.assertEqual(told[-5:], [[2], [1], self.SEEN[2], [0], [-2]])

    def test_only_one_of_two_like_rolls_goes(self):
        told = ask(create(0), ROLL, ROLL, remove_roll(0), get_roll(0), get_roll(1))
        self.assertEqual(told[-3:], [[1], [0, 20, 1, 5, 9], [-2]])

    def test_roll_that_does_not_exist(self):
        self.assertEqual(last(create(0), remove_roll(0)), [-2])
        for roll in (3, 4, HUGE):
            self.assertEqual(last(*self.ROLLS, remove_roll(roll)), [-2])

    def test_plans_are_without_the_removed_roll(self):
        told = ask(create(0), add_roll(9, [1]), add_roll(9, [50]), lowest_cost(3), remove_roll(1), lowest_cost(3))
        self.assertEqual(told[-3:], [[153], [1], [3]])


class TestSetAge(unittest.TestCase):
    def test_old_age_is_answered_and_new_one_kept(self):
        told = ask(create(0), ROLL, set_age(0, 5), set_age(0, 0), set_age(0, 99), set_age(0, 98), get_roll(0))
        self.assertEqual(told[2:], [[0], [5], [0], [99], [98, 20, 1, 5, 9]])

    def test_only_the_named_roll_changes(self):
        told = ask(create(0), ROLL, ROLL, ROLL, set_age(1, 4), get_roll(0), get_roll(1), get_roll(2))
        self.assertEqual([answer[0] for answer in told[-3:]], [0, 4, 0])

    def test_age_beyond_its_limit(self):
        for age in (100, 101, HUGE):
            told = ask(create(0), ROLL, set_age(0, 6), set_age(0, age), get_roll(0))
            self.assertEqual(told[-2:], [[-22], [6, 20, 1, 5, 9]])

    def test_roll_that_does_not_exist_comes_first(self):
        for age in (0, 99, 100, HUGE):
            self.assertEqual(last(create(0), set_age(0, age)), [-2])
            for roll in (1, 3, HUGE):
                self.assertEqual(last(create(0), ROLL, set_age(roll, age)), [-2])


class TestSetVisitCost(unittest.TestCase):
    def test_old_cost_is_answered_and_new_one_kept(self):
        told = ask(create(7), set_visit_cost(0), set_visit_cost(999), set_visit_cost(998), set_visit_cost(1))
        self.assertEqual(told[1:], [[7], [0], [999], [998]])

    def test_cost_beyond_its_limit(self):
        for cost in (1000, 1001, HUGE):
            self.assertEqual(ask(create(7), set_visit_cost(cost), set_visit_cost(1)), [[0], [-22], [7]])

    def test_rolls_stay_and_are_reckoned_with_the_new_cost(self):
        told = ask(create(7), ROLL, set_age(0, 2), set_visit_cost(100), mean_weekly_cost(0, 1), get_roll(0))
        self.assertEqual(told[-2:], [[0, 121, 1], [2, 20, 1, 5, 9]])


class TestGetRoll(unittest.TestCase):
    def test_weekly_costs_stand_last_without_a_count(self):
        for costs in ([0], [99], [9, 1, 5], [8, 7, 6, 5, 4, 3, 2, 1]):
            self.assertEqual(last(create(0), add_roll(4, costs), set_age(0, 3), get_roll(0)), [3, 4, *costs])

    def test_roll_that_does_not_exist(self):
        self.assertEqual(last(create(0), get_roll(0)), [-2])
        for roll in (1, 2, 3, HUGE):
            self.assertEqual(last(create(0), ROLL, get_roll(roll)), [-2])


if __name__ == "__main__":
    unittest.main()
