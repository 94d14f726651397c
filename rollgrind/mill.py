"""Reads a list of calls on one mill and tells their answers as another list."""

from rollgrind.operations import add_roll, best_period, cheapest_plan, cost_of_single_roll, cost_without_regrinding
from rollgrind.operations import create, get_roll, has_rising_costs, joint_savings, lowest_cost, lowest_cost_for_visit
from rollgrind.operations import mean_weekly_cost, next_regrind, plan_cost, remove_roll, run_planned_week, run_week
from rollgrind.operations import set_age, set_visit_cost, status
from rollgrind.refusals import NeverReground, NoMill, NoRoll, OutsideLimits, TooManyRolls
from rollgrind.state import Request


def answers(calls):
    request = Request()
    told = []
    for place, numbers in split_calls(calls):
        result = answer(request, place, numbers)
        told.append(len(result))
        told.extend(result)
    return told


def split_calls(calls):
    found = []
    at = 0
    while at < len(calls):
        end = at + 2 + calls[at + 1]
        found.append((calls[at], calls[at + 2:end]))
        # Behind the numbers stands how many lists the call has, which is always 0.
        at = end + 1
    return found


def answer(request, place, numbers):
    try:
        return operate(request, place, numbers)
    except NoMill:
        return [-11]
    except NoRoll:
        return [-2]
    except OutsideLimits:
        return [-22]
    except TooManyRolls:
        return [-28]
    except NeverReground:
        return [-33]


def operate(request, place, numbers):
    if place == 0:
        return create(request, numbers[0])
    # Asked here once for all other calls, so that no check of theirs can come before it.
    if request.mill is None:
        raise NoMill()
    # The calls 8 to 17 are about weeks to come, the others about the mill as it is.
    if 8 <= place <= 17:
        return operate_on_weeks(request.mill, place, numbers)
    return operate_on_rolls(request.mill, place, numbers)


def operate_on_rolls(mill, place, numbers):
    if place == 1:
        return add_roll(mill, numbers[0], numbers[1:])
    if place == 2:
        return remove_roll(mill, numbers[0])
    if place == 3:
        return set_age(mill, numbers[0], numbers[1])
    if place == 4:
        return set_visit_cost(mill, numbers[0])
    if place == 5:
        return get_roll(mill, numbers[0])
    if place == 6:
        return mean_weekly_cost(mill, numbers[0], numbers[1])
    if place == 7:
        return best_period(mill, numbers[0])
    if place == 18:
        return has_rising_costs(mill, numbers[0])
    return status(mill)


def operate_on_weeks(mill, place, numbers):
    if place == 8:
        return cheapest_plan(mill, numbers[0])
    if place == 9:
        return lowest_cost(mill, numbers[0])
    if place == 10:
        return plan_cost(mill, numbers)
    if place == 11:
        return run_week(mill, numbers[0])
    if place == 12:
        return run_planned_week(mill, numbers[0])
    if place == 13:
        return cost_without_regrinding(mill, numbers[0])
    if place == 14:
        return cost_of_single_roll(mill, numbers[0], numbers[1])
    if place == 15:
        return lowest_cost_for_visit(mill, numbers[0], numbers[1])
    if place == 16:
        return joint_savings(mill, numbers[0])
    return next_regrind(mill, numbers[0], numbers[1])
