"""Comparisons of terms, and how they are joined: formulas, each an ascending tuple of alternatives.

A term is a pair of an unknown, or `()`, and an integer: their sum.
"""

HOLDS = ((),)
FAILS = ()
# The sign that holds where another one fails.
OPPOSITE = {"<=": ">", "=": "!=", "!=": "=", ">=": "<"}


def compare(left, sign, right):
    """The formula that two terms are as the sign says."""
    if sign == "<=":
        return _at_most(left, right)
    if sign == "<":
        return _at_most(left, plus(right, -1))
    if sign == ">=":
        return _at_most(right, left)
    if sign == ">":
        return _at_most(right, plus(left, -1))
    if sign == "=":
        return all_of([_at_most(left, right), _at_most(right, left)])
    return any_of([compare(left, "<", right), compare(left, ">", right)])


def plus(term, k):
    """A term that is greater by k."""
    return term[0], term[1] + k


def _at_most(left, right):
    """The formula that a term is not greater than another one."""
    (u, a), (v, b) = left, right
    if u == v:
        return HOLDS if a <= b else FAILS
    return (((u, v, b - a),),)


def any_of(formulas):
    """The formula that one of several formulas holds."""
    alternatives = sorted({some for formula in formulas for some in formula})
    return HOLDS if () in alternatives else tuple(alternatives)


def all_of(formulas):
    """The formula that all of several formulas hold."""
    choices = [()]
    for formula in formulas:
        if () not in formula:
            choices = [(*atoms, *alternative) for atoms in choices for alternative in formula]
    return tuple(sorted({tuple(sorted(set(atoms))) for atoms in choices}))


def as_clauses(formulas):
    """The clauses of a list, ascending, that say that all of several formulas hold."""
    return tuple(sorted({formula for formula in formulas if () not in formula}))
