"""Writes calls as the program reads them, and tells its answers call by call."""

import itertools
import random

from rollgrind.mill import answers

HUGE = 4294967295


def call(place, *numbers):
    return [place, len(numbers), *numbers, 0]


def create(visit_cost):
    return call(0, visit_cost)


def add_roll(regrind_cost, weekly_costs):
    return call(1, regrind_cost, *weekly_costs)


def remove_roll(roll):
    return call(2, roll)


def set_age(roll, age):
    return call(3, roll, age)


def set_visit_cost(visit_cost):
    return call(4, visit_cost)


def get_roll(roll):
    return call(5, roll)


def mean_weekly_cost(roll, period):
    return call(6, roll, period)


def best_period(roll):
    return call(7, roll)


def cheapest_plan(weeks):
    return call(8, weeks)


def lowest_cost(weeks):
    return call(9, weeks)


# The calls 10 to 19, in ordinary form.
LATER_CALLS = [
    call(10, 0), call(11, 0), call(12, 1), call(13, 0), call(14, 0, 0),
    call(15, 0, 0), call(16, 0), call(17, 0, 0), call(18, 0), call(19),
]


def split_answers(told):
    found = []
    at = 0
    while at < len(told):
        found.append(told[at + 1:at + 1 + told[at]])
        at += 1 + told[at]
    return found


def ask(*calls):
    """The answers to these calls, a list for each."""
    return split_answers(answers([number for one in calls for number in one]))


def last(*calls):
    return ask(*calls)[-1]


# All that can be seen of a mill with up to 3 rolls. The mean weekly cost tells its visit cost.
LOOKS = [get_roll(0), get_roll(1), get_roll(2), get_roll(3), mean_weekly_cost(0, 1),
         best_period(0), lowest_cost(5), cheapest_plan(4)]


class DrawnMill:
    """A mill drawn by chance, from a fixed seed, with a plain reckoning of its own."""

    def __init__(self, seed, roll_count=None, small=False):
        draw = random.Random(seed)
        if roll_count is None:
            roll_count = draw.randint(0, 3)
        # Small costs bring ties.
        cost_limit, week_limit = (3, 3) if small else draw.choice([(40, 30), (200, 99), (999, 99)])
        self.visit_cost = draw.randint(0, cost_limit)
        self.rolls = []
        for _ in range(roll_count):
            costs = [draw.randint(0, week_limit) for _ in range(draw.randint(1, 8))]
            if draw.random() < 0.5:
                costs.sort()
            self.rolls.append((draw.randint(0, cost_limit), costs))
        self.ages = [draw.choice([0, 1, 2, 3, 7, 98]) for _ in range(roll_count)]

    def calls(self):
        made = [create(self.visit_cost)]
        made += [add_roll(cost, costs) for cost, costs in self.rolls]
        return made + [set_age(roll, age) for roll, age in enumerate(self.ages)]

    def ask(self, *calls):
        """The answers behind those to the calls that make the mill."""
        return ask(*self.calls(), *calls)[len(self.calls()):]

    def week_cost(self, roll, age):
        costs = self.rolls[roll][1]
        return costs[age] if age < len(costs) else costs[-1]

    def mean_sum(self, roll, period):
        return self.rolls[roll][0] + self.visit_cost + sum(self.week_cost(roll, age) for age in range(period))

    def week(self, ages, chosen):
        """The cost of a week, and the ages behind it."""
        cost = self.visit_cost if chosen else 0
        after = []
        for roll, age in enumerate(ages):
            if chosen & 2 ** roll:
                cost += self.rolls[roll][0]
                age = 0
            cost += self.week_cost(roll, age)
            after.append(age + 1)
        return cost, after

    def plan_cost(self, plan):
        ages, total = self.ages, 0
        for chosen in plan:
            cost, ages = self.week(ages, chosen)
            total += cost
        return total

    def every_plan(self, weeks):
        return itertools.product(range(2 ** len(self.rolls)), repeat=weeks)

    def best_of_every_plan(self, weeks):
        """The lowest cost and, of the plans that have it, the lexicographically smallest."""
        cost, plan = min((self.plan_cost(plan), plan) for plan in self.every_plan(weeks))
        return [cost, *plan]
