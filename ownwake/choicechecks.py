"""Checks of what is told of a choice."""

from ownwake.choosing import ranked_plans
from ownwake.forms import is_same, is_tuple
from ownwake.soundchecks import disturbed_holds, sound_holds


def choice_holds(statement, sizes, shares, hands, thing):
    """Whether any value is a paper: the first plan that has trees, and how each plan before it is disturbed."""
    if not is_tuple(thing, 3) or not isinstance(thing[2], tuple):
        return False
    told, trees, cheaper = thing
    plans = ranked_plans(statement, sizes, shares, hands)[:len(cheaper) + 1]
    if len(plans) != len(cheaper) + 1 or not all([is_tuple(part, 3) for part in cheaper]):
        return False
    named = [*[part[0] for part in cheaper], told]
    if not all([is_same(some, plan.data) for some, plan in zip(named, plans)]):
        return False
    if not sound_holds(plans[-1], trees):
        return False
    return all([disturbed_holds(plan, part[1:]) for plan, part in zip(plans, cheaper)])
