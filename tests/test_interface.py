"""How the calls are read and the answers told, and that nothing is kept."""

import unittest

from rollgrind.mill import answers

from helper import HUGE, LATER_CALLS, DrawnMill, add_roll, ask, best_period, call, cheapest_plan, create, get_roll
from helper import lowest_cost, mean_weekly_cost, remove_roll, set_age, set_visit_cost

MIXED = [lowest_cost(1), create(1000), create(10), add_roll(20, [1, 5, 9]), add_roll(3, [4] * 8), add_roll(3, []),
         set_age(1, 99), cheapest_plan(5), best_period(0), mean_weekly_cost(1, 7), get_roll(1), get_roll(2),
         set_visit_cost(HUGE), remove_roll(0), get_roll(0), lowest_cost(5), create(0), cheapest_plan(3)]


def joined(calls):
    return [number for one in calls for number in one]


class TestTold(unittest.TestCase):
    def test_how_many_numbers_then_these(self):
        self.assertEqual(answers([0, 1, 7, 0]), [1, 0])
        self.assertEqual(answers([0, 1, 7, 0, 8, 1, 5, 0]), [1, 0, 6, 0, 0, 0, 0, 0, 0])
        self.assertEqual(answers([0, 1, 7, 0, 8, 1, 0, 0]), [1, 0, 1, 0])
        self.assertEqual(answers([0, 1, 7, 0, 1, 3, 5, 6, 7, 0, 5, 1, 0, 0]), [1, 0, 1, 0, 4, 0, 5, 6, 7])
        self.assertEqual(answers([5, 1, 0, 0]), [1, -11])

    def test_lists_of_every_length(self):
        for count in range(11):
            calls = [0, 1, 0, 0, 1, 1 + count, 9] + [5] * count + [0, 4, 1, 1, 0]
            added = 0 if 1 <= count <= 8 else -22
            self.assertEqual(answers(calls), [1, 0, 1, added, 1, 0])

    def test_zeros_within_a_call_do_not_end_it(self):
        calls = [0, 1, 0, 0, 1, 5, 0, 0, 0, 0, 0, 0, 3, 2, 0, 0, 0, 5, 1, 0, 0]
        self.assertEqual(answers(calls), [1, 0, 1, 0, 1, 0, 6, 0, 0, 0, 0, 0, 0])

    def test_calls_10_to_19_are_read_whole(self):
        lists = [call(10, *[0] * count) for count in range(11)]
        told = ask(*LATER_CALLS, *lists, create(4), set_visit_cost(1))
        self.assertEqual(told, [[-11]] * (len(LATER_CALLS) + 11) + [[0], [4]])

    def test_sixty_calls(self):
        calls = [create(999)] + [add_roll(999, [99] * 8)] * 3 + [cheapest_plan(5)] * 56
        told = ask(*calls)
        self.assertEqual(told, [[0], [0], [1], [2]] + [[1485, 0, 0, 0, 0, 0]] * 56)
        longest = [add_roll(HUGE, [HUGE] * 10)] * 60
        self.assertEqual(len(joined(longest)), 840)
        self.assertEqual(ask(*longest), [[-11]] * 60)

    def test_whole_numbers_and_lists_only(self):
        told = answers(joined(MIXED))
        self.assertIs(type(told), list)
        self.assertEqual({type(number) for number in told}, {int})

    def test_only_an_error_is_below_0(self):
        for seed in range(50):
            mill = DrawnMill(seed)
            told = mill.ask(get_roll(0), best_period(1), cheapest_plan(5), lowest_cost(4), get_roll(3))
            for answer in told:
                self.assertTrue(len(answer) == 1 or min(answer) >= 0)
            self.assertEqual(told[-1], [-2])


class TestNothingIsKept(unittest.TestCase):
    def test_list_that_is_handed_in_stays(self):
        calls = joined(MIXED)
        copy = list(calls)
        answers(calls)
        self.assertEqual(calls, copy)

    def test_second_time_answers_the_same(self):
        calls = joined(MIXED)
        first = answers(calls)
        copy = list(first)
        self.assertEqual(answers(calls), copy)
        self.assertEqual(first, copy)

    def test_answers_are_a_new_list_each_time(self):
        calls = joined(MIXED)
        first = answers(calls)
        wanted = list(first)
        first.clear()
        self.assertEqual(answers(calls), wanted)

    def test_no_mill_is_left_from_the_time_before(self):
        answers(joined([create(5), add_roll(1, [2])]))
        self.assertEqual(ask(get_roll(0)), [[-11]])
        self.assertEqual(ask(create(5), get_roll(0)), [[0], [-2]])


if __name__ == "__main__":
    unittest.main()
