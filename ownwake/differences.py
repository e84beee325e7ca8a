"""Differences between unknowns: solutions and rings."""

from ownwake.atoms import atoms_of, is_atom, is_held, is_unknown, unknowns_of
from ownwake.forms import is_integer, is_tuple
from ownwake.systems import System


def solve(atoms):
    """A solution of atoms, or a ring of some of them."""
    system = System(unknowns_of(atoms))
    for atom in atoms:
        ring = system.add(atom)
        if ring is not None:
            return "ring", ring
    return "solution", system.pairs()


def solution_holds(clauses, thing):
    """Whether any value is a solution of clauses."""
    if not isinstance(thing, tuple) or not all([is_tuple(pair, 2) for pair in thing]):
        return False
    if not all([is_unknown(unknown) and is_integer(value) for unknown, value in thing]):
        return False
    if [unknown for unknown, _ in thing] != unknowns_of(atoms_of(clauses)):
        return False
    worth = {unknown: value for unknown, value in thing}
    worth[()] = 0
    return all([any([_is_fulfilled(alternative, worth) for alternative in clause]) for clause in clauses])


def _is_fulfilled(alternative, worth):
    """Whether all atoms of an alternative hold by a dict of values."""
    return all([is_held(atom, worth) for atom in alternative])


def ring_holds(atoms, thing):
    """Whether any value is a ring of some of these atoms."""
    return is_ring(thing, {atom: 1 for atom in atoms})


def is_ring(thing, usable):
    """Whether any value is a ring of atoms that are counted at least once."""
    if not isinstance(thing, tuple) or len(thing) < 2 or not all([is_atom(part) for part in thing]):
        return False
    if not all([usable.get(atom, 0) > 0 for atom in thing]) or len(set(thing)) < len(thing):
        return False
    following = (*thing[1:], thing[0])
    return all([one[1] == other[0] for one, other in zip(thing, following)]) and sum([atom[2] for atom in thing]) < 0
