"""The choice: the cheapest plan that cannot be disturbed."""

from math import lcm

from ownwake.costs import cost
from ownwake.deciding import decide
from ownwake.plans import plans_of


def choose(statement, sizes, shares, *, hands="one"):
    """The first sound plan in the order of costs, and the paper that shows it."""
    cheaper = []
    # Some plan is sound, since those that hold all levels are.
    for plan in ranked_plans(statement, sizes, shares, hands):
        found = decide(plan)
        if found[0] == "sound":
            return plan, (plan.data, found[1], tuple(cheaper))
        cheaper.append((plan.data, found[1], found[2]))


def ranked_plans(statement, sizes, shares, hands):
    """The plans in question for these hands, the cheapest first."""
    plans = list(plans_of(statement, hands=hands))
    if hands == "many":
        plans = plans + [plan for plan in plans_of(statement) if plan.keep or plan.hold == len(plan.order)]
    costs = [cost(plan, sizes, shares) for plan in plans]
    shared = 1
    for some in costs:
        shared = lcm(shared, some.bottom)
    # Over a common bottom the tops are in the order of the costs.
    ranks = [(some.top * (shared // some.bottom), plan.data, at) for at, (some, plan) in enumerate(zip(costs, plans))]
    return [plans[at] for _, _, at in sorted(ranks)]
