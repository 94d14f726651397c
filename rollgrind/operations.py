"""The operations on a mill: each gives back its answer or raises its refusal."""

from rollgrind.periods import LONGEST_PERIOD, cheapest_period, mean_cost
from rollgrind.plans import Planner, ages_after_week, ages_now, cost_of_plan, cost_of_week, is_reground
from rollgrind.refusals import NeverReground, NoRoll, OutsideLimits, TooManyRolls
from rollgrind.state import Mill, Roll

MOST_ROLLS = 3
MOST_WEEKLY_COSTS = 8
HIGHEST_COST = 999
HIGHEST_WEEKLY_COST = 99
HIGHEST_AGE = 99
MOST_WEEKS = 5


def check_limits(number, lowest, highest):
    if number < lowest or number > highest:
        raise OutsideLimits()


def roll_at(mill, roll):
    if roll >= len(mill.rolls):
        raise NoRoll()
    return mill.rolls[roll]


def check_set(mill, chosen):
    check_limits(chosen, 0, (1 << len(mill.rolls)) - 1)


def cheapest(rolls, visit_cost, weeks):
    check_limits(weeks, 0, MOST_WEEKS)
    return Planner(rolls, visit_cost).cheapest(weeks)


def execute_week(mill, chosen):
    ages = ages_now(mill.rolls)
    cost = cost_of_week(mill.rolls, mill.visit_cost, ages, chosen)
    for roll, age in zip(mill.rolls, ages_after_week(ages, chosen)):
        roll.age = age
    mill.spent += cost
    mill.week_count += 1
    return cost


def create(request, visit_cost):
    check_limits(visit_cost, 0, HIGHEST_COST)
    request.mill = Mill(visit_cost)
    return [0]


def add_roll(mill, regrind_cost, weekly_costs):
    check_limits(regrind_cost, 0, HIGHEST_COST)
    check_limits(len(weekly_costs), 1, MOST_WEEKLY_COSTS)
    for cost in weekly_costs:
        check_limits(cost, 0, HIGHEST_WEEKLY_COST)
    if len(mill.rolls) >= MOST_ROLLS:
        raise TooManyRolls()
    mill.rolls.append(Roll(regrind_cost, weekly_costs))
    return [len(mill.rolls) - 1]


def remove_roll(mill, roll):
    roll_at(mill, roll)
    mill.rolls.pop(roll)
    return [len(mill.rolls)]


def set_age(mill, roll, age):
    found = roll_at(mill, roll)
    check_limits(age, 0, HIGHEST_AGE)
    old_age = found.age
    found.age = age
    return [old_age]


def set_visit_cost(mill, visit_cost):
    check_limits(visit_cost, 0, HIGHEST_COST)
    old_visit_cost = mill.visit_cost
    mill.visit_cost = visit_cost
    return [old_visit_cost]


def get_roll(mill, roll):
    found = roll_at(mill, roll)
    return [found.age, found.regrind_cost] + found.weekly_costs


def mean_weekly_cost(mill, roll, period):
    found = roll_at(mill, roll)
    check_limits(period, 1, LONGEST_PERIOD)
    return [0] + mean_cost(found, mill.visit_cost, period)


def best_period(mill, roll):
    found = roll_at(mill, roll)
    period = cheapest_period(found, mill.visit_cost)
    return [period] + mean_cost(found, mill.visit_cost, period)


def cheapest_plan(mill, weeks):
    best = cheapest(mill.rolls, mill.visit_cost, weeks)
    return [best[0]] + list(best[1])


def lowest_cost(mill, weeks):
    return [cheapest(mill.rolls, mill.visit_cost, weeks)[0]]


def plan_cost(mill, plan):
    check_limits(len(plan), 0, MOST_WEEKS)
    for chosen in plan:
        check_set(mill, chosen)
    return [cost_of_plan(mill.rolls, mill.visit_cost, plan)]


def run_week(mill, chosen):
    check_set(mill, chosen)
    return [execute_week(mill, chosen)]


def run_planned_week(mill, weeks):
    check_limits(weeks, 1, MOST_WEEKS)
    plan = cheapest(mill.rolls, mill.visit_cost, weeks)[1]
    return [plan[0], execute_week(mill, plan[0])]


def cost_without_regrinding(mill, weeks):
    check_limits(weeks, 0, MOST_WEEKS)
    return [cost_of_plan(mill.rolls, mill.visit_cost, [0] * weeks)]


def cost_of_single_roll(mill, roll, weeks):
    found = roll_at(mill, roll)
    return [cheapest([found], mill.visit_cost, weeks)[0]]


def lowest_cost_for_visit(mill, visit_cost, weeks):
    check_limits(visit_cost, 0, HIGHEST_COST)
    return [cheapest(mill.rolls, visit_cost, weeks)[0]]


def joint_savings(mill, weeks):
    together = cheapest(mill.rolls, mill.visit_cost, weeks)[0]
    alone = sum([cheapest([roll], mill.visit_cost, weeks)[0] for roll in mill.rolls])
    return [alone - together]


def next_regrind(mill, roll, weeks):
    roll_at(mill, roll)
    plan = cheapest(mill.rolls, mill.visit_cost, weeks)[1]
    for week, chosen in enumerate(plan):
        if is_reground(roll, chosen):
            return [week]
    raise NeverReground()


def has_rising_costs(mill, roll):
    costs = roll_at(mill, roll).weekly_costs
    for at in range(1, len(costs)):
        if costs[at] < costs[at - 1]:
            return [0]
    return [1]


def status(mill):
    return [mill.week_count, mill.spent, mill.visit_cost, len(mill.rolls)]
