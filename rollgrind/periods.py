"""How often a single roll is to be reground in the long run."""

from rollgrind.state import week_cost

LONGEST_PERIOD = 24


def period_cost(roll, visit_cost, period):
    running = sum([week_cost(roll, age) for age in range(period)])
    return roll.regrind_cost + visit_cost + running


def lowest_terms(numerator, denominator):
    divisor = denominator
    rest = numerator
    while rest != 0:
        left = divisor % rest
        divisor = rest
        rest = left
    return [numerator // divisor, denominator // divisor]


def mean_cost(roll, visit_cost, period):
    return lowest_terms(period_cost(roll, visit_cost, period), period)


def cheapest_period(roll, visit_cost):
    best = 1
    best_cost = period_cost(roll, visit_cost, 1)
    for period in range(2, LONGEST_PERIOD + 1):
        cost = period_cost(roll, visit_cost, period)
        # The means are compared crosswise, as a division would round them.
        # An equal mean changes nothing, as ties go to the smallest period.
        if cost * best < best_cost * period:
            best = period
            best_cost = cost
    return best
