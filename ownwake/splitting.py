"""The search for trees of clauses that cannot hold."""


class Splitter:
    """Splits clauses until each way ends with a ring."""

    def __init__(self, clauses, choices):
        self._clauses = clauses
        self._choices = choices

    def tree(self, free):
        """A tree for what is there and the clauses with these indexes, and the indexes of the clauses that it needs."""
        failing = [at for at in free if not self._choices.is_fulfilled(self._clauses[at])]
        best = None
        for at in failing:
            rings = [self._choices.attempt((at,), alternative) for alternative in self._clauses[at]]
            if best is None or rings.count(None) < best[1].count(None):
                best = (at, rings)
            if None not in rings:
                break
        at, rings = best
        rest = [some for some in free if some != at]
        trees, needed = [], {}
        for alternative, found in zip(self._clauses[at], rings):
            tree, owners = self._subtree(at, alternative, rest) if found is None else (("ring", found[0]), found[1])
            if at not in owners:
                # What was chosen here is not used, so the clause need not be split.
                return tree, owners
            trees.append(tree)
            for owner in owners:
                needed[owner] = True
        return ("split", self._clauses[at], tuple(trees)), [owner for owner in needed if owner != at]

    def _subtree(self, at, alternative, rest):
        """The tree, and what it needs, when an alternative is chosen."""
        self._choices.choose((at,), alternative)
        found = self.tree(rest)
        self._choices.take_back()
        return found
