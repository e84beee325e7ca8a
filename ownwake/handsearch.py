"""The search for a weaving of many hands after which a run is disturbed."""

from ownwake.handmoves import IDLE_HAND, HandMoves
from ownwake.meanings import matches
from ownwake.rights import Rights


class DisturbanceSearch:
    """The ways of hands below a number, as long as all that is raised is right."""

    def __init__(self, plan, database, hands):
        self._moves = HandMoves(plan, database)
        self._rights = Rights(plan, database)
        self._hands = hands
        self._bits = {numbers: 1 << at for at, numbers in enumerate(matches(plan.statement, database))}

    def found(self, limit):
        """A weaving of at most so many events after which the run is disturbed, or None."""
        # All that was raised on the ways so far is right; ways that meet are followed once.
        ways = [(self._moves.start(), 0, ())]
        seen = {}
        while ways != []:
            longer = []
            for state, raised, weaving in ways:
                steps = self._steps(state)
                if steps == [] and raised != sum(list(self._bits.values())):
                    return weaving
                if len(weaving) < limit:
                    longer.extend([(after, self._with_raised(raised, copies), (*weaving, hand))
                                   for hand, after, copies in steps])
            ways = []
            for state, raised, weaving in longer:
                if raised is None:
                    return weaving
                key = (self._moves.noticed(state), raised)
                if key not in seen:
                    seen[key] = True
                    ways.append((state, raised, weaving))
        return None

    def _steps(self, state):
        """The steps of a state: a hand, the state after it and what it raised; one hand stands for all empty ones."""
        busy = [hand for hand, some in enumerate(state[3]) if some != IDLE_HAND]
        free = [hand for hand in range(min(len(state[3]) + 1, self._hands)) if hand not in busy]
        moved = [(hand, self._moves.after(state, hand)) for hand in busy + free[:1]]
        return [(hand, *some) for hand, some in moved if some is not None]

    def _with_raised(self, raised, copies):
        """The matches that have been raised, as bits of an integer, with this one; None if it is not right."""
        if copies == ():
            return raised
        bit = self._bits.get(self._moves.numbers(copies), 0)
        if self._rights.fault(copies, raised & bit != 0) is not None:
            return None
        return raised | bit
