"""The ways that many hands can go from state to state, and how soon a run can end."""

from ownwake.handbounds import LeastEvents
from ownwake.handmoves import HandMoves


class Catalog:
    """Things that are known by an index."""

    def __init__(self):
        self._things = []
        self._indexes = {}

    def index_of(self, thing):
        """The index of a thing, which is taken up if it is new."""
        if thing not in self._indexes:
            self._indexes[thing] = len(self._things)
            self._things.append(thing)
        return self._indexes[thing]

    def thing(self, index):
        """The thing with an index."""
        return self._things[index]


class Endings:
    """All ways in which hands below a number bring a run to its end within a limit."""

    def __init__(self, plan, database, hands, limit):
        self._moves = HandMoves(plan, database)
        self._bounds = LeastEvents(plan, self._moves, limit)
        self._hands = hands
        # States with the hands' names, their steps, and the states without names that they are.
        self._states = Catalog()
        self._ways = {}
        self._bare = {}
        # States without names, those that come next, and how many events they need at least, and at most.
        self._bare_states = Catalog()
        self._coming = {}
        self._least = {}
        self._most = {}

    def start(self):
        """The index of the state in which no hand has stepped."""
        return self._states.index_of(self._moves.start())

    def steps(self, index):
        """The hands that can step in a state, each with the index of the state to which it leads."""
        if index not in self._ways:
            state = self._states.thing(index)
            moved = [(hand, self._moves.after(state, hand)) for hand in range(min(len(state[3]) + 1, self._hands))]
            self._ways[index] = [(hand, self._states.index_of(some[0])) for hand, some in moved if some is not None]
        return self._ways[index]

    def is_near(self, index, limit):
        """Whether a state can be brought to the end within so many events."""
        if index not in self._bare:
            noticed = self._moves.noticed(self._states.thing(index))
            self._bare[index] = self._bare_states.index_of(noticed)
        return self._ends_within(self._bare[index], limit)

    def _ends_within(self, bare, limit):
        """Whether a state without names can be brought to the end within so many events."""
        if bare not in self._least:
            self._least[bare] = self._bounds.least(self._bare_states.thing(bare))
        if limit >= self._most.get(bare, limit + 1):
            return True
        if limit < self._least[bare]:
            return False
        if bare not in self._coming:
            coming = self._moves.followers(self._bare_states.thing(bare), self._hands)
            self._coming[bare] = [self._bare_states.index_of(some) for some in coming]
        # At the limit itself only a state that is an end will do.
        if self._coming[bare] == [] or limit > 0 and self._leads_on(bare, limit - 1):
            self._most[bare] = limit
            return True
        self._least[bare] = limit + 1
        return False

    def _leads_on(self, bare, limit):
        """Whether a state leads to one that can be brought to the end within so many events."""
        for some in self._coming[bare]:
            if self._ends_within(some, limit):
                return True
        return False
