"""What many hands can do, as moves from state to state; states never change, so ways that meet can be told.

A state is a tuple (rows, touched, place, hands): the rows of the written table, the numbers of the rows that a mark
lets scans skip, the place of the shared scan, and for each hand (outer, place, due): its outer row, the place of its
own scan, and the copies of a match to raise. `()` stands for what is not there. Places are such that the lesser one is
always ahead. Levels are counted from 0 here.
"""

from ownwake.cells import made, settled
from ownwake.databases import next_number
from ownwake.levels import Levels
from ownwake.planparts import HEAP

IDLE_HAND = ((), (), ())


class HandMoves:
    """The moves of the hands of a run of a plan on a database."""

    def __init__(self, plan, database):
        statement = plan.statement
        self._statement = statement
        self._levels = Levels(plan, database)
        self._target = plan.order.index(statement.references[0][0])
        names = [self._levels.table_name(level) for level in range(1, len(plan.order) + 1)]
        self._fixed = [None if name == statement.table else database[name] for name in names]
        self._marked = [alias in plan.marks for alias in plan.order]
        self._first_rows = database[statement.table] if None in self._fixed else ()
        self._following = next_number(database, statement.table)
        # What is asked of copies and of new rows is asked again and again.
        self._passing = {}
        self._bounding = {}
        self._settling = {}
        self._showing = {}
        self._alike = {}

    def start(self):
        """The state in which no hand has stepped."""
        return self._first_rows, (), (), ()

    def numbers(self, copies):
        """The numbers of a match that is raised from these copies."""
        return self._levels.numbers(copies)

    def target(self, copies):
        """The number of the row that is written when these copies are raised, except by an insert."""
        return copies[self._target][0]

    def after(self, state, hand):
        """The state after the next event of a hand, and the copies that it raised, or `()`; None if it is idle."""
        rows, touched, place, hands = state
        outer, inner, due = hands[hand] if hand < len(hands) else IDLE_HAND
        if due != ():
            rows, touched, place, _ = self.after_raise(state, due)
            return (rows, touched, place, _with_hand(hands, hand, (outer, inner, ()))), due
        if outer != ():
            found = self.next_row(state, (outer,), inner)
            if found is not None:
                inner, row = found
                due = (outer, row) if self.passes((outer, row)) else ()
                return (rows, touched, place, _with_hand(hands, hand, (outer, inner, due))), ()
        found = self.next_row(state, (), place)
        if found is None:
            return None
        return (rows, touched, found[0], _with_hand(hands, hand, self._hand_with(found[1]))), ()

    def _hand_with(self, row):
        """A hand that has just fetched a row at the first level."""
        if not self.passes((row,)):
            return IDLE_HAND
        return ((), (), (row,)) if len(self._fixed) == 1 else (row, (), ())

    def followers(self, state, hands):
        """The states that can come next, by hands below a number, without those that differ in their hands' names."""
        moved = [self.after(state, hand) for hand in range(min(len(state[3]) + 1, hands))]
        return [self.noticed(some[0]) for some in moved if some is not None]

    def noticed(self, state):
        """A state without what no hand can ever notice, and without the hands' names."""
        rows, touched, place, hands = state
        busy = tuple(sorted([hand for hand in hands if hand != IDLE_HAND]))
        if self._fixed[0] is None and None not in self._fixed[1:]:
            # What the shared scan has left behind counts only if some hand can still write it.
            held = [row[0] for outer, _, due in busy for row in (outer, *due) if row != ()]
            held = held + [row[0] for _, row in self.rows_ahead(state, (), place)]
            rows = tuple([row for row in rows if row[0] in held])
            touched = tuple([number for number in touched if number in held])
        return rows, touched, place, busy

    def next_row(self, state, outer, place):
        """The next row behind a place of the scan behind these copies, with its own place before it; or None."""
        return min(self.rows_ahead(state, outer, place), default=None)

    def rows_ahead(self, state, outer, place):
        """The rows behind a place of the scan behind these copies, each with its own place before it."""
        level = len(outer)
        read = state[0] if self._fixed[level] is None else self._fixed[level]
        if self._marked[level]:
            read = [row for row in read if row[0] < self._following and row[0] not in state[1]]
        return self.behind(read, outer, place)

    def behind(self, read, outer, place):
        """Those of some rows that lie behind a place of the scan behind these copies."""
        path = self._levels.path(len(outer) + 1)
        if path == HEAP:
            return [((row[0],), row) for row in read if (row[0],) > place]
        if outer not in self._bounding:
            self._bounding[outer] = self._levels.bounds(outer)
        least, most = self._bounding[outer]
        turn, at = -1 if path[0] == "down" else 1, path[1]
        within = [row for row in read
                  if (least is None or least <= row[1][at]) and (most is None or row[1][at] <= most)]
        places = [((turn * row[1][at], turn * row[0]), row) for row in within]
        return [some for some in places if some[0] > place]

    def passes(self, copies):
        """Whether the last of these copies passes the tests of its level."""
        if copies not in self._passing:
            self._passing[copies] = self._levels.passes(copies)
        return self._passing[copies]

    def after_raise(self, state, copies):
        """A state when a match has been raised, its hand aside."""
        rows, touched, place, hands = state
        kind, number = self._statement.kind, self.target(copies)
        if None not in self._fixed:
            return state
        if kind == "insert":
            return self._with_new_row(state, copies)
        if kind == "delete":
            return tuple([row for row in rows if row[0] != number]), touched, place, hands
        changed = tuple([(number, self._settled(copies, row[1])) if row[0] == number else row for row in rows])
        if changed != rows and True in self._marked and number not in touched:
            touched = tuple(sorted([*touched, number]))
        return changed, touched, place, hands

    def _settled(self, copies, values):
        """The values of a new row, or of a changed one that had these values."""
        if (copies, values) not in self._settling:
            cells = self._levels.cells(copies)
            new = settled(self._statement, cells, values) if values != () else made(self._statement, cells)
            self._settling[copies, values] = new
        return self._settling[copies, values]

    def _with_new_row(self, state, copies):
        """A state with the new row of a match, unless no scan can ever return it."""
        rows, touched, place, hands = state
        values = self._settled(copies, ())
        if values not in self._showing:
            self._showing[values] = self._shown(values)
        if self._showing[values] == ():
            return state
        # The number is greater than all before, also than that of the row at which the shared scan is.
        before = [self._following - 1, *[row[0] for row in rows], *[abs(part) for part in place[-1:]]]
        return (*rows, (max(before) + 1, self._showing[values])), touched, place, hands

    def _shown(self, values):
        """The values of a new row, or those of one that is like it for all scans; `()` if none can return it."""
        row = (self._following, values)
        levels = [level for level in range(len(self._fixed)) if self._is_open(level)]
        views = tuple([self._view(level, row) for level in levels])
        if "full" in views:
            return values
        if [view for view in views if view != "out"] == []:
            return ()
        paths = [self._levels.path(level + 1) for level in levels]
        places = tuple([values[path[1]] for path in paths if path != HEAP])
        return self._alike.setdefault((views, places), values)

    def _is_open(self, level):
        """Whether the scan of a level can return new rows."""
        return self._fixed[level] is None and not self._marked[level]

    def _old_rows(self, level):
        """The rows of the beginning that a level reads."""
        return self._first_rows if self._fixed[level] is None else self._fixed[level]

    def _view(self, level, row):
        """What a new row is for a level: out if no scan returns it, vain if it never passes there, or what it meets."""
        if level == 1 and self._is_open(0):
            return "vain" if self._levels.fails_alone(2, row) else "full"
        outers = [(some,) for some in self._old_rows(0) if self.passes((some,))] if level == 1 else [()]
        within = [outer for outer in outers if self.behind([row], outer, ()) != []]
        if within == []:
            return "out"
        if True not in [self.passes((*outer, row)) for outer in within]:
            return "vain"
        return self._met(row) if level == 0 and len(self._fixed) == 2 and not self._is_open(1) else "full"

    def _met(self, row):
        """The numbers of the rows that are fetched in vain for a new outer row, if none of them passes."""
        met = [some for _, some in self.behind(self._old_rows(1), (row,), ())]
        if True in [self.passes((row, some)) for some in met]:
            return "full"
        return tuple([some[0] for some in met])


def _with_hand(hands, hand, now):
    """The hands with another one of this name."""
    filled = hands if hand < len(hands) else (*hands, *[IDLE_HAND for _ in range(len(hands), hand + 1)])
    return (*filled[:hand], now, *filled[hand + 1:])
