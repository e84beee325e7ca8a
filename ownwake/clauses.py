"""Clauses: solutions and trees."""

from ownwake.atoms import is_clause
from ownwake.choices import Choices
from ownwake.differences import is_ring
from ownwake.forms import is_tuple
from ownwake.solving import Solver
from ownwake.splitting import Splitter


def settle(clauses):
    """A solution of clauses, or a tree of them."""
    distinct = sorted(set(clauses))
    choices = Choices(distinct)
    found = choices.choose((), _sure_atoms(distinct))
    if found is not None:
        return "tree", ("ring", found[0])
    free = [at for at, clause in enumerate(distinct) if len(clause) != 1]
    if Solver(distinct, choices).blame(free) is None:
        return "solution", choices.pairs()
    return "tree", Splitter(distinct, choices).tree(free)[0]


def tree_holds(clauses, thing):
    """Whether any value is a tree of clauses."""
    # How often each atom may be used, and each clause be split, at the place that is looked at.
    usable = {}
    _count(usable, _sure_atoms(clauses), 1)
    unsplit = {clause: 1 for clause in clauses}
    # What is yet to be looked at, and what changes before and after that; the last one comes first.
    waiting = [(None, 0, thing)]
    while waiting != []:
        counted, change, tree = waiting.pop()
        if counted is not None:
            _count(counted, tree, change)
        elif is_tuple(tree, 3) and tree[0] == "split":
            if not _is_split(unsplit, tree):
                return False
            _, clause, trees = tree
            waiting.append((unsplit, 1, [clause]))
            for alternative, some in zip(clause, trees):
                waiting.extend([(usable, -1, alternative), (None, 0, some), (usable, 1, alternative)])
            waiting.append((unsplit, -1, [clause]))
        elif not is_tuple(tree, 2) or tree[0] != "ring" or not is_ring(tree[1], usable):
            return False
    return True


def _sure_atoms(clauses):
    """The atoms of the clauses with one alternative."""
    return [atom for clause in clauses if len(clause) == 1 for atom in clause[0]]


def _count(counts, things, change):
    """Change the counts of some things."""
    for thing in things:
        counts[thing] = counts.get(thing, 0) + change


def _is_split(unsplit, tree):
    """Whether a tree splits a clause that may be split, and has a part for each alternative, right or not."""
    _, clause, trees = tree
    return is_clause(clause) and unsplit.get(clause, 0) > 0 and is_tuple(trees, len(clause))
