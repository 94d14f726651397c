"""run_week, run_planned_week and status."""

import unittest

from helper import HUGE, LOOKS, DrawnMill, add_roll, ask, cheapest_plan, create, get_roll, last, lowest_cost
from helper import plan_cost, remove_roll, run_planned_week, run_week, set_age, set_visit_cost, status

ROLLS = [add_roll(20, [1, 5, 9]), add_roll(300, [40, 30]), add_roll(4, [6])]


def get_rolls(count):
    return [get_roll(roll) for roll in range(count)]


class TestStatus(unittest.TestCase):
    def test_new_mill(self):
        for visit_cost in (0, 1, 999):
            self.assertEqual(ask(create(visit_cost), status()), [[0], [0, 0, visit_cost, 0]])

    def test_number_of_rolls(self):
        told = ask(create(7), *[one for roll in ROLLS for one in (roll, status())],
                   remove_roll(1), status(), remove_roll(0), remove_roll(0), status())
        self.assertEqual([told[place] for place in (2, 4, 6, 8, 11)],
                         [[0, 0, 7, 1], [0, 0, 7, 2], [0, 0, 7, 3], [0, 0, 7, 2], [0, 0, 7, 0]])

    def test_visit_cost_as_it_is_now(self):
        told = ask(create(7), set_visit_cost(999), status(), set_visit_cost(1000), status())
        self.assertEqual(told[2::2], [[0, 0, 999, 0]] * 2)

    def test_weeks_and_costs_are_added_up(self):
        told = ask(create(10), *ROLLS, run_week(0), status(), run_week(3), status(), run_planned_week(1), status())
        self.assertEqual(told[4:], [[47], [1, 47, 10, 3], [377], [2, 424, 10, 3], [0, 41], [3, 465, 10, 3]])

    def test_what_was_spent_stays_when_the_mill_changes(self):
        told = ask(create(10), *ROLLS, run_week(1), set_visit_cost(500), remove_roll(0), set_age(0, 50), status())
        self.assertEqual(told[-1], [1, 77, 500, 2])


class TestRunWeek(unittest.TestCase):
    def test_no_rolls(self):
        told = ask(create(10), run_week(0), run_week(0), status(), run_week(1), run_week(HUGE), status())
        self.assertEqual(told[1:], [[0], [0], [2, 0, 10, 0], [-22], [-22], [2, 0, 10, 0]])

    def test_every_set_of_rolls(self):
        costs = [0, 1, 2, 3, 4, 5, 6, 7]
        for count in range(4):
            mill = [create(999)] + [add_roll(100 * 2 ** roll, costs) for roll in range(count)]
            mill += [set_age(roll, 3 + roll) for roll in range(count)]
            for chosen in range(2 ** count):
                in_set = [bool(chosen & 2 ** roll) for roll in range(count)]
                told = ask(*mill, run_week(chosen), *get_rolls(count), status())
                running = sum(3 + roll for roll in range(count) if not in_set[roll])
                cost = 100 * chosen + running + (999 if chosen else 0)
                self.assertEqual(told[len(mill)], [cost])
                ages = [answer[0] for answer in told[len(mill) + 1:-1]]
                self.assertEqual(ages, [1 if in_set[roll] else 4 + roll for roll in range(count)])
                self.assertEqual(told[-1], [1, cost, 999, count])

    def test_sets_with_a_roll_that_does_not_exist(self):
        for count in range(4):
            mill = [create(10), *ROLLS[:count]]
            before = ask(*mill, *LOOKS)[len(mill):]
            self.assertGreaterEqual(last(*mill, run_week(2 ** count - 1))[0], 0)
            for chosen in (2 ** count, 2 ** count + 1, 2 ** (count + 1) - 1, 8, 15, 16, 2 ** 31, HUGE - 7, HUGE):
                if chosen >= 2 ** count:
                    told = ask(*mill, run_week(chosen), *LOOKS)[len(mill):]
                    self.assertEqual(told, [[-22], *before])

    def test_age_is_0_behind_regrinding_and_rises_by_1_behind_the_week(self):
        told = ask(create(10), ROLLS[0], run_week(0), run_week(0), run_week(1), run_week(0), run_week(1), run_week(1),
                   get_roll(0), status())
        self.assertEqual(told[2:], [[1], [5], [31], [5], [31], [31], [1, 20, 1, 5, 9], [6, 104, 10, 1]])

    def test_ages_beyond_the_end_of_weekly_costs(self):
        told = ask(create(10), add_roll(5, [1, 7]), *[run_week(0)] * 10, get_roll(0), status())
        self.assertEqual(told[2:12], [[1]] + [[7]] * 9)
        self.assertEqual(told[12:], [[10, 5, 1, 7], [10, 64, 10, 1]])

    def test_ages_beyond_99(self):
        told = ask(create(10), *ROLLS, set_age(0, 99), set_age(1, 98), *[run_week(0)] * 3, *get_rolls(3),
                   set_age(0, 100), set_age(0, 99), get_roll(0))
        self.assertEqual(told[6:9], [[45]] * 3)
        self.assertEqual([answer[0] for answer in told[9:12]], [102, 101, 3])
        self.assertEqual(told[12:], [[-22], [102], [99, 20, 1, 5, 9]])

    def test_fifty_weeks_beyond_99(self):
        told = ask(create(10), ROLLS[0], set_age(0, 99), *[run_week(0)] * 50, cheapest_plan(5), get_roll(0), status())
        self.assertEqual(told[-3:], [[45, 0, 0, 0, 0, 0], [149, 20, 1, 5, 9], [50, 450, 10, 1]])

    def test_a_roll_that_is_added_later_begins_at_0(self):
        told = ask(create(10), ROLLS[0], run_week(0), ROLLS[1], run_week(0), get_roll(0), get_roll(1))
        self.assertEqual(told[-3:], [[45], [2, 20, 1, 5, 9], [1, 300, 40, 30]])

    def test_ages_go_with_their_rolls_when_one_is_removed(self):
        told = ask(create(10), *ROLLS, run_week(0), run_week(2), remove_roll(0), get_roll(0), get_roll(1))
        self.assertEqual(told[-2:], [[1, 300, 40, 30], [2, 4, 6]])

    def test_costs_what_the_plan_of_this_one_week_costs(self):
        for seed in range(80):
            mill = DrawnMill(seed)
            for chosen in range(2 ** len(mill.rolls)):
                cost, ages = mill.week(mill.ages, chosen)
                told = mill.ask(plan_cost([chosen]), run_week(chosen), status(), *get_rolls(len(ages)))
                self.assertEqual(told[:3], [[cost], [cost], [1, cost, mill.visit_cost, len(ages)]])
                self.assertEqual([answer[0] for answer in told[3:]], ages)


class TestRunPlannedWeek(unittest.TestCase):
    def test_set_and_cost(self):
        told = ask(create(10), add_roll(20, [0, 50]), run_planned_week(1), run_planned_week(5), run_planned_week(1),
                   get_roll(0), status())
        self.assertEqual(told[2:], [[0, 0], [1, 30], [1, 30], [1, 20, 0, 50], [3, 60, 10, 1]])

    def test_no_rolls(self):
        for weeks in range(1, 6):
            told = ask(create(10), run_planned_week(weeks), status())
            self.assertEqual(told[1:], [[0, 0], [1, 0, 10, 0]])

    def test_limits_of_the_weeks(self):
        for rolls in ([], ROLLS[:1], ROLLS):
            mill = [create(10), *rolls]
            before = ask(*mill, *LOOKS)[len(mill):]
            for weeks in (0, 6, 7, HUGE):
                told = ask(*mill, run_planned_week(weeks), *LOOKS)[len(mill):]
                self.assertEqual(told, [[-22], *before])
            for weeks in (1, 5):
                self.assertEqual(last(*mill, run_planned_week(weeks), status())[0], 1)

    def test_the_number_of_weeks_decides(self):
        mill = [create(2), add_roll(5, [0, 1, 6]), set_age(0, 2)]
        # For 3 weeks the plans 1 0 0 and 0 1 0 both cost 14, and the second is the smaller list;
        # for 5 weeks likewise 1 0 1 0 0 and 0 1 0 1 0, which both cost 22.
        for weeks, chosen, cost in ((1, 0, 6), (2, 1, 7), (3, 0, 6), (4, 1, 7), (5, 0, 6)):
            self.assertEqual(last(*mill, run_planned_week(weeks)), [chosen, cost])

    def test_first_set_of_the_cheapest_plan_with_ties_as_told(self):
        reground = 0
        for seed in range(120):
            mill = DrawnMill(seed, small=seed % 3 != 0)
            for weeks in range(1, 4):
                plan = mill.best_of_every_plan(weeks)[1:]
                cost, ages = mill.week(mill.ages, plan[0])
                told = mill.ask(run_planned_week(weeks), *get_rolls(len(ages)), status())
                self.assertEqual(told[0], [plan[0], cost])
                self.assertEqual([answer[0] for answer in told[1:-1]], ages)
                self.assertEqual(told[-1], [1, cost, mill.visit_cost, len(ages)])
                reground += plan[0] != 0
        self.assertGreater(reground, 40)

    def test_ties_in_the_first_week(self):
        # Regrinding costs just what it saves.
        told = last(create(2), add_roll(3, [0, 5]), set_age(0, 1), run_planned_week(1))
        self.assertEqual(told, [0, 5])
        # One roll is worth the visit; regrinding the other too costs just what it saves.
        worth, even = add_roll(9, [0, 50]), add_roll(9, [0, 9])
        ages = [set_age(0, 1), set_age(1, 1)]
        self.assertEqual(last(create(1), worth, even, *ages, run_planned_week(1)), [1, 19])
        self.assertEqual(last(create(1), even, worth, *ages, run_planned_week(1)), [2, 19])

    def test_does_as_run_week_does(self):
        for seed in range(60):
            mill = DrawnMill(seed)
            for weeks in range(1, 6):
                planned = mill.ask(run_planned_week(weeks), *LOOKS)
                run = mill.ask(run_week(planned[0][0]), *LOOKS)
                self.assertEqual([planned[0][1:], *planned[1:]], run)

    def test_a_cheapest_plan_is_run_week_by_week(self):
        for seed in range(60):
            mill = DrawnMill(seed)
            told = mill.ask(cheapest_plan(5), *[run_planned_week(weeks) for weeks in (5, 4, 3, 2, 1)], status())
            self.assertEqual([answer[0] for answer in told[1:6]], told[0][1:])
            self.assertEqual(told[6][:2], [5, told[0][0]])


class TestCreateAgain(unittest.TestCase):
    MILL = [create(10), *ROLLS, run_week(7), run_week(0), run_planned_week(3)]

    def test_begins_at_0(self):
        told = ask(*self.MILL, create(5), status(), ROLLS[0], run_week(0), status())
        self.assertEqual(told[len(self.MILL):], [[0], [0, 0, 5, 0], [0], [1], [1, 1, 5, 1]])

    def test_with_the_same_visit_cost(self):
        told = ask(*self.MILL, create(10), status())
        self.assertEqual(told[-1], [0, 0, 10, 0])

    def test_a_failed_create_keeps_what_was_run(self):
        before = ask(*self.MILL, *LOOKS)[len(self.MILL):]
        self.assertEqual(before[0][0], 3)
        for visit_cost in (1000, HUGE):
            told = ask(*self.MILL, create(visit_cost), *LOOKS)[len(self.MILL):]
            self.assertEqual(told, [[-22], *before])


class TestPlansBehindAWeek(unittest.TestCase):
    def test_plans_begin_with_the_ages_behind_the_week(self):
        told = ask(create(2), add_roll(3, [0, 4, 20]), cheapest_plan(3), run_week(0), cheapest_plan(3), run_week(0),
                   cheapest_plan(3), lowest_cost(1))
        self.assertEqual(told[2::2], [[9, 0, 0, 1], [13, 0, 1, 0], [14, 1, 0, 1]])
        self.assertEqual(told[-1], [5])


if __name__ == "__main__":
    unittest.main()
