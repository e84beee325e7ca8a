"""Unknowns, atoms and clauses: their forms, and the unknowns that occur in them."""

from ownwake.forms import is_integer, is_name, is_natural, is_tuple

ROLES = ("written", "other", "first", "second")
NUMBER = "#"
MOST_INDEXES = 3


def is_unknown(thing):
    """Whether any value is an unknown."""
    if not is_tuple(thing, 3):
        return False
    role, row, column = thing
    if role not in ROLES or not isinstance(row, tuple) or not 1 <= len(row) <= MOST_INDEXES:
        return False
    return all([is_natural(index) for index in row]) and (is_name(column) or column == NUMBER)


def is_atom(thing):
    """Whether any value is an atom."""
    if not is_tuple(thing, 3):
        return False
    u, v, k = thing
    return all([side == () or is_unknown(side) for side in (u, v)]) and u != v and is_integer(k)


def is_clause(thing):
    """Whether any value is a clause, its alternatives and their atoms in any order."""
    if not isinstance(thing, tuple) or not all([isinstance(alternative, tuple) for alternative in thing]):
        return False
    return all([is_atom(atom) for alternative in thing for atom in alternative])


def atoms_of(clauses):
    """All atoms of clauses, as often as they occur."""
    return [atom for clause in clauses for alternative in clause for atom in alternative]


def unknowns_of(atoms):
    """The unknowns that occur in atoms, ascending."""
    return sorted({side for u, v, _ in atoms for side in (u, v) if side != ()})


def is_held(atom, worth):
    """Whether an atom holds by a dict of values."""
    u, v, k = atom
    return worth[u] - worth[v] <= k
