"""Writes calls as the program reads them, tells its answers call by call, and reckons them in another way."""

import itertools
import random
from fractions import Fraction

from rollgrind.mill import answers

HUGE = 4294967295


def call(place, *numbers):
    return [place, len(numbers), *numbers, 0]


def create(visit_cost):
    return call(0, visit_cost)


def add_roll(regrind_cost, weekly_costs):
    return call(1, regrind_cost, *weekly_costs)


def remove_roll(roll):
    return call(2, roll)


def set_age(roll, age):
    return call(3, roll, age)


def set_visit_cost(visit_cost):
    return call(4, visit_cost)


def get_roll(roll):
    return call(5, roll)


def mean_weekly_cost(roll, period):
    return call(6, roll, period)


def best_period(roll):
    return call(7, roll)


def cheapest_plan(weeks):
    return call(8, weeks)


def lowest_cost(weeks):
    return call(9, weeks)


def plan_cost(plan):
    return call(10, *plan)


def run_week(chosen):
    return call(11, chosen)


def run_planned_week(weeks):
    return call(12, weeks)


def cost_without_regrinding(weeks):
    return call(13, weeks)


def cost_of_single_roll(roll, weeks):
    return call(14, roll, weeks)


def lowest_cost_for_visit(visit_cost, weeks):
    return call(15, visit_cost, weeks)


def joint_savings(weeks):
    return call(16, weeks)


def next_regrind(roll, weeks):
    return call(17, roll, weeks)


def has_rising_costs(roll):
    return call(18, roll)


def status():
    return call(19)


def split_answers(told):
    found = []
    at = 0
    while at < len(told):
        found.append(told[at + 1:at + 1 + told[at]])
        at += 1 + told[at]
    return found


def ask(*calls):
    """The answers to these calls, a list for each."""
    return split_answers(answers([number for one in calls for number in one]))


def last(*calls):
    return ask(*calls)[-1]


# All that a mill holds, and some of what is reckoned from it.
LOOKS = [status(), get_roll(0), get_roll(1), get_roll(2), get_roll(3), mean_weekly_cost(0, 1),
         best_period(0), lowest_cost(5), cheapest_plan(4), joint_savings(3)]


class DrawnMill:
    """A mill drawn by chance, from a fixed seed, with a plain reckoning of its own."""

    def __init__(self, seed, roll_count=None, small=False):
        draw = random.Random(seed)
        if roll_count is None:
            roll_count = draw.randint(0, 3)
        # Small costs bring ties.
        cost_limit, week_limit = (3, 3) if small else draw.choice([(40, 30), (200, 99), (999, 99)])
        self.visit_cost = draw.randint(0, cost_limit)
        self.rolls = []
        for _ in range(roll_count):
            costs = [draw.randint(0, week_limit) for _ in range(draw.randint(1, 8))]
            if draw.random() < 0.5:
                costs.sort()
            self.rolls.append((draw.randint(0, cost_limit), costs))
        self.ages = [draw.choice([0, 1, 2, 3, 7, 98]) for _ in range(roll_count)]

    def calls(self):
        made = [create(self.visit_cost)]
        made += [add_roll(cost, costs) for cost, costs in self.rolls]
        return made + [set_age(roll, age) for roll, age in enumerate(self.ages)]

    def ask(self, *calls):
        """The answers behind those to the calls that make the mill."""
        return ask(*self.calls(), *calls)[len(self.calls()):]

    def week_cost(self, roll, age):
        costs = self.rolls[roll][1]
        return costs[age] if age < len(costs) else costs[-1]

    def mean_sum(self, roll, period):
        return self.rolls[roll][0] + self.visit_cost + sum(self.week_cost(roll, age) for age in range(period))

    def week(self, ages, chosen):
        """The cost of a week, and the ages behind it."""
        cost = self.visit_cost if chosen else 0
        after = []
        for roll, age in enumerate(ages):
            if chosen & 2 ** roll:
                cost += self.rolls[roll][0]
                age = 0
            cost += self.week_cost(roll, age)
            after.append(age + 1)
        return cost, after

    def plan_cost(self, plan):
        ages, total = self.ages, 0
        for chosen in plan:
            cost, ages = self.week(ages, chosen)
            total += cost
        return total

    def every_plan(self, weeks):
        return itertools.product(range(2 ** len(self.rolls)), repeat=weeks)

    def best_of_every_plan(self, weeks):
        """The lowest cost and, of the plans that have it, the lexicographically smallest."""
        cost, plan = min((self.plan_cost(plan), plan) for plan in self.every_plan(weeks))
        return [cost, *plan]


NAMES = ["create", "add_roll", "remove_roll", "set_age", "set_visit_cost", "get_roll", "mean_weekly_cost",
         "best_period", "cheapest_plan", "lowest_cost", "plan_cost", "run_week", "run_planned_week",
         "cost_without_regrinding", "cost_of_single_roll", "lowest_cost_for_visit", "joint_savings",
         "next_regrind", "has_rising_costs", "status"]


class Refused(Exception):
    pass


class Reckoner:
    """Answers every call as the document asks, in another way than the program does.

    A set is here the tuple of its rolls. Plans are reckoned forward from the first week, keeping for all ages
    that can be reached the best way there. Means are fractions. A roll is [age, regrind_cost, weekly_costs]."""

    def __init__(self):
        self.mill = None

    def answer(self, one):
        place, numbers = one[0], one[2:-1]
        try:
            if place != 0 and self.mill is None:
                raise Refused(-11)
            told = getattr(self, NAMES[place])(*numbers)
        except Refused as refused:
            return [refused.args[0]]
        return list(told) if isinstance(told, (list, tuple)) else [told]

    def need(self, holds, code=-22):
        if not holds:
            raise Refused(code)

    def roll(self, roll):
        self.need(roll in range(len(self.mill["rolls"])), -2)
        return self.mill["rolls"][roll]

    def subset(self, chosen):
        bits = list(reversed(f"{chosen:b}"))
        subset = tuple(number for number, bit in enumerate(bits) if bit == "1")
        self.need(set(subset) <= set(range(len(self.mill["rolls"]))))
        return subset

    def week(self, rolls, visit_cost, ages, subset):
        """The cost of a week, and the ages behind it."""
        ages = [0 if number in subset else age for number, age in enumerate(ages)]
        running = [(costs + [costs[-1]] * age)[age] for age, (_, _, costs) in zip(ages, rolls)]
        regrinding = [rolls[number][1] for number in subset]
        return sum(running + regrinding + [visit_cost] * bool(subset)), tuple(age + 1 for age in ages)

    def total(self, subsets):
        cost, ages = 0, [age for age, _, _ in self.mill["rolls"]]
        for subset in subsets:
            more, ages = self.week(self.mill["rolls"], self.mill["visit_cost"], ages, subset)
            cost += more
        return cost

    def best(self, weeks, rolls=None, visit_cost=None):
        self.need(weeks in range(6))
        rolls = self.mill["rolls"] if rolls is None else rolls
        visit_cost = self.mill["visit_cost"] if visit_cost is None else visit_cost
        subsets = [subset for count in range(len(rolls) + 1)
                   for subset in itertools.combinations(range(len(rolls)), count)]
        ways = {tuple(age for age, _, _ in rolls): (0, ())}
        for _ in range(weeks):
            longer = {}
            for ages, (cost, plan) in ways.items():
                for subset in subsets:
                    more, after = self.week(rolls, visit_cost, ages, subset)
                    way = (cost + more, plan + (sum(2 ** number for number in subset),))
                    longer[after] = min(way, longer.get(after, way))
            ways = longer
        return min(ways.values())

    def mean(self, roll, period):
        _, regrind_cost, costs = self.roll(roll)
        long_costs = costs + [costs[-1]] * 24
        return Fraction(self.mill["visit_cost"] + regrind_cost + sum(long_costs[:period]), period)

    def run(self, subset):
        rolls = self.mill["rolls"]
        cost, ages = self.week(rolls, self.mill["visit_cost"], [age for age, _, _ in rolls], subset)
        for roll, age in zip(rolls, ages):
            roll[0] = age
        self.mill["weeks"].append(cost)
        return cost

    def create(self, visit_cost):
        self.need(visit_cost < 1000)
        self.mill = {"rolls": [], "visit_cost": visit_cost, "weeks": []}
        return 0

    def add_roll(self, regrind_cost, *weekly_costs):
        self.need(regrind_cost < 1000 and 0 < len(weekly_costs) < 9 and max(weekly_costs) < 100)
        self.need(len(self.mill["rolls"]) < 3, -28)
        self.mill["rolls"].append([0, regrind_cost, list(weekly_costs)])
        return len(self.mill["rolls"]) - 1

    def remove_roll(self, roll):
        self.roll(roll)
        del self.mill["rolls"][roll]
        return len(self.mill["rolls"])

    def set_age(self, roll, age):
        found = self.roll(roll)
        self.need(age < 100)
        old, found[0] = found[0], age
        return old

    def set_visit_cost(self, visit_cost):
        self.need(visit_cost < 1000)
        old, self.mill["visit_cost"] = self.mill["visit_cost"], visit_cost
        return old

    def get_roll(self, roll):
        age, regrind_cost, costs = self.roll(roll)
        return [age, regrind_cost, *costs]

    def mean_weekly_cost(self, roll, period):
        self.roll(roll)
        self.need(0 < period < 25)
        mean = self.mean(roll, period)
        return 0, mean.numerator, mean.denominator

    def best_period(self, roll):
        mean, period = min((self.mean(roll, period), period) for period in range(1, 25))
        return period, mean.numerator, mean.denominator

    def cheapest_plan(self, weeks):
        cost, plan = self.best(weeks)
        return [cost, *plan]

    def lowest_cost(self, weeks):
        return self.best(weeks)[0]

    def plan_cost(self, *plan):
        self.need(len(plan) < 6)
        return self.total([self.subset(chosen) for chosen in plan])

    def run_week(self, chosen):
        return self.run(self.subset(chosen))

    def run_planned_week(self, weeks):
        self.need(weeks != 0)
        chosen = self.best(weeks)[1][0]
        return chosen, self.run(self.subset(chosen))

    def cost_without_regrinding(self, weeks):
        self.need(weeks < 6)
        return self.total([()] * weeks)

    def cost_of_single_roll(self, roll, weeks):
        return self.best(weeks, rolls=[self.roll(roll)])[0]

    def lowest_cost_for_visit(self, visit_cost, weeks):
        self.need(visit_cost < 1000)
        return self.best(weeks, visit_cost=visit_cost)[0]

    def joint_savings(self, weeks):
        together = self.best(weeks)[0]
        return sum(self.best(weeks, rolls=[roll])[0] for roll in self.mill["rolls"]) - together

    def next_regrind(self, roll, weeks):
        self.roll(roll)
        found = [week for week, chosen in enumerate(self.best(weeks)[1]) if roll in self.subset(chosen)]
        self.need(found, -33)
        return min(found)

    def has_rising_costs(self, roll):
        costs = self.roll(roll)[2]
        return int(costs == sorted(costs))

    def status(self):
        mill = self.mill
        return len(mill["weeks"]), sum(mill["weeks"]), mill["visit_cost"], len(mill["rolls"])


def reckon(calls):
    """The answers to these calls, a list for each, without the program."""
    reckoner = Reckoner()
    return [reckoner.answer(one) for one in calls]
