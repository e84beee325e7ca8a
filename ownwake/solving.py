"""The search for values that make clauses hold."""


class Solver:
    """Chooses alternatives until the values make all clauses hold."""

    def __init__(self, clauses, choices):
        self._clauses = clauses
        self._choices = choices

    def blame(self, free):
        """The clauses whose choices keep those with these indexes from holding, too; None if all hold now."""
        depth = self._choices.depth()
        blamed = self._blame_within(free)
        if blamed is not None:
            self._choices.take_back_to(depth)
        return blamed

    def _blame_within(self, free):
        """The same, without taking back what was added."""
        while True:
            failing = [at for at in free if not self._choices.is_fulfilled(self._clauses[at])]
            if failing == []:
                return None
            outlooks = {at: self._outlook(at) for at in failing}
            is_tightened = False
            for possible, reason in list(outlooks.values()):
                if possible == []:
                    return reason
                atoms = [atom for atom in _weakest(possible) if not self._choices.has(atom)]
                found = self._choices.choose(reason, atoms)
                if found is not None:
                    return found[1]
                is_tightened = is_tightened or atoms != []
            if not is_tightened:
                _, at = min([(len(outlooks[at][0]), at) for at in failing])
                return self._branch(at, outlooks[at], [some for some in free if some != at])

    def _outlook(self, at):
        """The alternatives of a clause that make no ring, and the other clauses by which the rest does."""
        possible, reason = [], {}
        for alternative in self._clauses[at]:
            found = self._choices.attempt((at,), alternative)
            if found is None:
                possible.append(alternative)
                continue
            for owner in found[1]:
                reason[owner] = True
        return possible, tuple(sorted([owner for owner in reason if owner != at]))

    def _branch(self, at, outlook, rest):
        """What is to blame if none of the alternatives that a clause still has will do; the nearest comes first."""
        possible, reason = outlook
        blamed = {owner: True for owner in reason}
        for _, alternative in sorted([(self._choices.lack(some), some) for some in possible]):
            self._choices.choose((at,), alternative)
            owners = self.blame(rest)
            if owners is None:
                return None
            self._choices.take_back()
            if at not in owners:
                # Whatever is chosen here, the same choices of others are in the way.
                return owners
            for owner in owners:
                blamed[owner] = True
        return tuple(sorted([owner for owner in blamed if owner != at]))


def _weakest(alternatives):
    """The atoms over those pairs of unknowns that each of the alternatives compares, as all of them allow."""
    bounds = [_bounds(alternative) for alternative in alternatives]
    pairs = [pair for pair in bounds[0] if all([pair in some for some in bounds])]
    return [(*pair, max([some[pair] for some in bounds])) for pair in pairs]


def _bounds(alternative):
    """The least integer for each pair of unknowns that an alternative compares."""
    least = {}
    for u, v, k in alternative:
        least[u, v] = min(k, least.get((u, v), k))
    return least
