"""What one request keeps: its mill, and the rolls of the mill."""


class Roll:
    def __init__(self, regrind_cost, weekly_costs):
        self.age = 0
        self.regrind_cost = regrind_cost
        self.weekly_costs = list(weekly_costs)


class Mill:
    def __init__(self, visit_cost):
        self.rolls = []
        self.visit_cost = visit_cost
        self.spent = 0
        self.week_count = 0


class Request:
    # create may come again, so the mill is kept in something that outlives it.
    def __init__(self):
        self.mill = None


def week_cost(roll, age):
    # The last weekly cost holds for all greater ages too.
    return roll.weekly_costs[min(age, len(roll.weekly_costs) - 1)]
