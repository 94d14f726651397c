"""The operations on a mill: each gives back its answer or raises its refusal."""

from rollgrind.periods import LONGEST_PERIOD, cheapest_period, mean_cost
from rollgrind.plans import Planner
from rollgrind.refusals import NoRoll, OutsideLimits, TooManyRolls
from rollgrind.state import Mill, Roll

MOST_ROLLS = 3
MOST_WEEKLY_COSTS = 8
HIGHEST_COST = 999
HIGHEST_WEEKLY_COST = 99
HIGHEST_AGE = 99
MOST_WEEKS = 5


def check_limits(number, lowest, highest):
    if number < lowest or number > highest:
        raise OutsideLimits()


def roll_at(mill, roll):
    if roll >= len(mill.rolls):
        raise NoRoll()
    return mill.rolls[roll]


def cheapest(mill, weeks):
    check_limits(weeks, 0, MOST_WEEKS)
    return Planner(mill.rolls, mill.visit_cost).cheapest(weeks)


def create(request, visit_cost):
    check_limits(visit_cost, 0, HIGHEST_COST)
    request.mill = Mill(visit_cost)
    return [0]


def add_roll(mill, regrind_cost, weekly_costs):
    check_limits(regrind_cost, 0, HIGHEST_COST)
    check_limits(len(weekly_costs), 1, MOST_WEEKLY_COSTS)
    for cost in weekly_costs:
        check_limits(cost, 0, HIGHEST_WEEKLY_COST)
    if len(mill.rolls) >= MOST_ROLLS:
        raise TooManyRolls()
    mill.rolls.append(Roll(regrind_cost, weekly_costs))
    return [len(mill.rolls) - 1]


def remove_roll(mill, roll):
    roll_at(mill, roll)
    mill.rolls.pop(roll)
    return [len(mill.rolls)]


def set_age(mill, roll, age):
    found = roll_at(mill, roll)
    check_limits(age, 0, HIGHEST_AGE)
    old_age = found.age
    found.age = age
    return [old_age]


def set_visit_cost(mill, visit_cost):
    check_limits(visit_cost, 0, HIGHEST_COST)
    old_visit_cost = mill.visit_cost
    mill.visit_cost = visit_cost
    return [old_visit_cost]


def get_roll(mill, roll):
    found = roll_at(mill, roll)
    return [found.age, found.regrind_cost] + found.weekly_costs


def mean_weekly_cost(mill, roll, period):
    found = roll_at(mill, roll)
    check_limits(period, 1, LONGEST_PERIOD)
    return [0] + mean_cost(found, mill.visit_cost, period)


def best_period(mill, roll):
    found = roll_at(mill, roll)
    period = cheapest_period(found, mill.visit_cost)
    return [period] + mean_cost(found, mill.visit_cost, period)


def cheapest_plan(mill, weeks):
    best = cheapest(mill, weeks)
    return [best[0]] + list(best[1])


def lowest_cost(mill, weeks):
    return [cheapest(mill, weeks)[0]]
