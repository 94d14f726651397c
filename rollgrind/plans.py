"""What a week costs, and which plan for the next weeks costs least."""

from rollgrind.state import week_cost


def ages_now(rolls):
    return [roll.age for roll in rolls]


def is_reground(number, chosen):
    return (chosen >> number) & 1 == 1


def regrind(ages, chosen):
    return [0 if is_reground(number, chosen) else age for number, age in enumerate(ages)]


def cost_of_week(rolls, visit_cost, ages, chosen):
    cost = 0 if chosen == 0 else visit_cost
    running_ages = regrind(ages, chosen)
    for number, roll in enumerate(rolls):
        if is_reground(number, chosen):
            cost += roll.regrind_cost
        cost += week_cost(roll, running_ages[number])
    return cost


def ages_after_week(ages, chosen):
    return [age + 1 for age in regrind(ages, chosen)]


def cost_of_plan(rolls, visit_cost, plan):
    cost = 0
    ages = ages_now(rolls)
    for chosen in plan:
        cost += cost_of_week(rolls, visit_cost, ages, chosen)
        ages = ages_after_week(ages, chosen)
    return cost


class Planner:
    def __init__(self, rolls, visit_cost):
        self.rolls = rolls
        self.visit_cost = visit_cost
        # Many plans lead to the same ages, and the weeks that are left need planning once only.
        self.known = {}

    def cheapest(self, weeks):
        return self.cheapest_from(tuple(ages_now(self.rolls)), weeks)

    def cheapest_from(self, ages, weeks):
        if weeks == 0:
            return (0, ())
        if (ages, weeks) not in self.known:
            self.known[(ages, weeks)] = self.cheapest_of_all_sets(ages, weeks)
        return self.known[(ages, weeks)]

    def cheapest_of_all_sets(self, ages, weeks):
        best = self.cheapest_with(ages, weeks, 0)
        for chosen in range(1, 1 << len(self.rolls)):
            other = self.cheapest_with(ages, weeks, chosen)
            # The sets come in rising order, so an equal cost changes nothing:
            # ties go to the lexicographically smallest list.
            if other[0] < best[0]:
                best = other
        return best

    def cheapest_with(self, ages, weeks, chosen):
        first_cost = cost_of_week(self.rolls, self.visit_cost, ages, chosen)
        later = self.cheapest_from(tuple(ages_after_week(ages, chosen)), weeks - 1)
        return (first_cost + later[0], (chosen,) + later[1])
