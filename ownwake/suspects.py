"""Suspects: what a match that disturbs a run can look like."""

from ownwake.formulas import FAILS, as_clauses
from ownwake.grounds import formulas_of
from ownwake.scenes import WRITTEN, Scene, roles_of, slots_of


def suspects_of(plan):
    """The suspects of a plan, ascending, each with its clauses."""
    found = []
    for kind, levels in _kinds(plan):
        for same in _samenesses(slots_of(plan, kind, levels)):
            suspect = (kind, levels, same)
            formulas = formulas_of(Scene(plan, suspect))
            if FAILS not in formulas:
                found.append((suspect, as_clauses(formulas)))
    return tuple(sorted(found))


def _kinds(plan):
    """The kinds of suspects that a plan can have, each with its levels."""
    roles = roles_of(plan)
    written = [level for level, role in enumerate(roles, start=1) if role == WRITTEN]
    reached = [level for level in written if level > plan.hold and not plan.keep]
    unmarked = [level for level in reached if plan.order[level - 1] not in plan.marks]
    several = [(level,) for level in unmarked] + ([(1, 2)] if unmarked == [1, 2] else [])
    if plan.statement.kind == "insert":
        return [("new", levels) for levels in several]
    missed = [("missed", (level,)) for level in reached]
    return missed if plan.statement.kind == "delete" else missed + [("raised", levels) for levels in several]


def _samenesses(slots):
    """All ways in which rows with these roles can be one, as tuples of numbers."""
    found = [()]
    for at, role in enumerate(slots):
        found = [(*numbers, number) for numbers in found for number in range(_following(slots[:at], numbers, role) + 1)]
    return found


def _following(slots, numbers, role):
    """The number of the next row with a role, if it is none that has come before."""
    return max([number for slot, number in zip(slots, numbers) if slot == role], default=-1) + 1
