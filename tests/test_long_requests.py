"""Requests of 60 calls, with all calls among them; their answers are reckoned in another way."""

import random
import unittest

from rollgrind.mill import answers

from helper import HUGE, NAMES, DrawnMill, Reckoner, call, cheapest_plan, create, reckon, split_answers

# Every answer that a call can have: 0 stands for all that are not errors.
OUTCOMES = {
    "create": {0, -22},
    "add_roll": {0, -11, -22, -28},
    "remove_roll": {0, -11, -2},
    "set_age": {0, -11, -2, -22},
    "set_visit_cost": {0, -11, -22},
    "get_roll": {0, -11, -2},
    "mean_weekly_cost": {0, -11, -2, -22},
    "best_period": {0, -11, -2},
    "cheapest_plan": {0, -11, -22},
    "lowest_cost": {0, -11, -22},
    "plan_cost": {0, -11, -22},
    "run_week": {0, -11, -22},
    "run_planned_week": {0, -11, -22},
    "cost_without_regrinding": {0, -11, -22},
    "cost_of_single_roll": {0, -11, -2, -22},
    "lowest_cost_for_visit": {0, -11, -22},
    "joint_savings": {0, -11, -22},
    "next_regrind": {0, -11, -2, -22, -33},
    "has_rising_costs": {0, -11, -2},
    "status": {0, -11},
}


class Drawer:
    """Draws calls by chance, from a fixed seed: mostly ordinary ones, at times with numbers outside their limits."""

    def __init__(self, seed):
        self.draw = random.Random(seed)
        self.small = seed % 2 == 0

    def amount(self):
        return self.draw.choice([0, 1, 2, 3, 5, 9]) if self.small else self.draw.choice([0, 7, 20, 90, 400, 999])

    def cost(self):
        return self.amount() if self.draw.random() < 0.93 else self.draw.choice([1000, 1001, HUGE])

    def roll(self):
        return self.draw.choice([0, 0, 0, 0, 1, 1, 1, 2, 2, 3, HUGE])

    def weeks(self):
        return self.draw.choice([0, 1, 2, 3, 4, 5, 5, 5, 6, HUGE])

    def chosen(self):
        return self.draw.choice([0, 0, 0, 1, 1, 1, 2, 3, 4, 5, 6, 7, 8, HUGE])

    def weekly_costs(self):
        limit = 9 if self.small else 99
        count = self.draw.choice([1, 1, 2, 3, 3, 4, 5, 6, 7, 8, 8])
        costs = [self.draw.randint(0, limit) for _ in range(count)]
        if self.draw.random() < 0.6:
            costs.sort()
        if self.draw.random() < 0.05:
            costs[self.draw.randrange(count)] = self.draw.choice([100, HUGE])
        if self.draw.random() < 0.05:
            costs = [0] * self.draw.choice([0, 9, 10])
        return costs

    def numbers(self, name):
        if name == "add_roll":
            return [self.cost(), *self.weekly_costs()]
        if name == "plan_cost":
            highest = self.draw.choice([0, 1, 1, 3, 7, 8])
            return [self.draw.randint(0, highest) for _ in range(self.draw.choice([0, 1, 2, 3, 4, 5, 5, 5, 6, 10]))]
        if name == "set_age":
            return [self.roll(), self.draw.choice([0, 1, 2, 3, 5, 7, 8, 50, 98, 99, 100, HUGE])]
        if name == "mean_weekly_cost":
            return [self.roll(), self.draw.choice([0, 1, 2, 3, 7, 8, 9, 12, 23, 24, 25, HUGE])]
        if name == "lowest_cost_for_visit":
            return [self.cost(), self.weeks()]
        if name in ("cost_of_single_roll", "next_regrind"):
            return [self.roll(), self.weeks()]
        if name in ("remove_roll", "get_roll", "best_period", "has_rising_costs"):
            return [self.roll()]
        if name in ("create", "set_visit_cost"):
            return [self.cost()]
        if name == "run_week":
            return [self.chosen()]
        return [] if name == "status" else [self.weeks()]

    def request(self):
        """60 calls: each of the twenty at least once, and a mill with rolls before most of them."""
        others = [name for name in NAMES if name != "create"]
        names = self.draw.choices(others + ["add_roll", "run_week", "run_planned_week", "next_regrind"], k=35)
        names += others
        self.draw.shuffle(names)
        at = self.draw.choice([0, 0, 0, 1, 5])
        names[at:at] = ["create", "create", "add_roll", "add_roll", "add_roll"]
        names.insert(self.draw.randrange(20, 60), "create")
        return [call(NAMES.index(name), *self.numbers(name)) for name in names]


def joined(calls):
    return [number for one in calls for number in one]


class TestLongRequests(unittest.TestCase):
    def test_answers_are_those_of_another_reckoning(self):
        seen = {name: set() for name in NAMES}
        for seed in range(120):
            calls = Drawer(seed).request()
            self.assertEqual(len(calls), 60)
            handed = joined(calls)
            copy = list(handed)
            told = answers(handed)
            self.assertEqual(handed, copy)
            self.assertEqual(answers(handed), told)
            wanted = reckon(calls)
            got = split_answers(told)
            self.assertEqual(len(got), 60)
            for at in range(60):
                self.assertEqual(got[at], wanted[at], (seed, at, calls[:at + 1]))
                seen[NAMES[calls[at][0]]].add(min(got[at][0], 0))
        self.assertEqual(seen, OUTCOMES)

    def test_all_calls_are_among_them(self):
        for seed in range(120):
            self.assertEqual({one[0] for one in Drawer(seed).request()}, set(range(20)))


class TestTheOtherReckoning(unittest.TestCase):
    def test_finds_the_best_of_every_plan(self):
        for seed in range(60):
            mill = DrawnMill(seed, seed % 4, small=seed % 8 < 4)
            reckoner = Reckoner()
            for one in mill.calls():
                reckoner.answer(one)
            for weeks in range(4):
                self.assertEqual(reckoner.answer(cheapest_plan(weeks)), mill.best_of_every_plan(weeks))

    def test_begins_without_a_mill(self):
        for place in range(1, 20):
            self.assertEqual(reckon([call(place), create(1000), call(place)]), [[-11], [-22], [-11]])


if __name__ == "__main__":
    unittest.main()
