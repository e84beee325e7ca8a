"""Live runs: a plan carried out event by event, while its scans stay open."""

from ownwake.cells import made, settled, telling
from ownwake.databases import first_duplicate, next_number
from ownwake.errors import Idle
from ownwake.levels import Levels
from ownwake.scans import LiveTable, place_of

# What a hand has: its outer row, the place of its own scan of level 2, and the copies of a match to raise.
EMPTY_HAND = (None, None, None)


class LiveRun:
    """A run of a plan on a database, made event by event."""

    def __init__(self, plan, database):
        statement = plan.statement
        self._plan = plan
        self._database = database
        self._levels = Levels(plan, database)
        self._table = LiveTable(database[statement.table], next_number(database, statement.table))
        self._read = [self._table_for(level) for level in range(1, len(plan.order) + 1)]
        self._touched = {}
        self._place = None
        self._hands = {}
        # The copies that are collected, and the index of those with which the run goes on, at last.
        self._held = []
        self._at = None
        self._events = []
        self._raised = []
        self._writes = []

    def _table_for(self, level):
        """The table that a level reads: the one that is written, or one that stays as at the beginning."""
        name = self._levels.table_name(level)
        if name == self._plan.statement.table and not self._plan.keep:
            return self._table
        return LiveTable(self._database[name])

    @property
    def plan(self):
        """The plan."""
        return self._plan

    @property
    def database(self):
        """The database of the beginning."""
        return self._database

    @property
    def data(self):
        """The data of a database as the tables are now."""
        name = self._plan.statement.table
        now = (name, self._table.following, self._table.rows)
        return tuple([now if part[0] == name else part for part in self._database.data])

    @property
    def events(self):
        """The events that the run has made."""
        return tuple(self._events)

    @property
    def raised(self):
        """The tellings, in the order in which they were raised."""
        return tuple(self._raised)

    @property
    def writes(self):
        """Of each raised match the numbers, the copies and the row that it wrote, removed or made, or None."""
        return tuple(self._writes)

    @property
    def ended(self):
        """Whether no hand can make an event, also none that has not stepped yet."""
        # A hand that has not stepped can only fetch at level 1, and where it can, hand 0 can make an event, too.
        return all([self._move(hand) is None for hand in [0, *self._hands]])

    @property
    def refused(self):
        """The column and the value for which a run that has ended is refused, or None."""
        statement = self._plan.statement
        return first_duplicate(statement.schema[statement.table], self._table.rows) if self.ended else None

    def step(self, hand=0):
        """Make the next event of a hand, and return it."""
        move = self._move(hand)
        if move is None:
            raise Idle(hand)
        return self._make(hand, move)

    def go(self, limit=400):
        """Let hand 0 step until it is idle or the run has so many events; return whether the run has ended."""
        while len(self._events) < limit:
            move = self._move(0)
            if move is None:
                break
            self._make(0, move)
        return self.ended

    def play(self, weaving):
        """Let the hands step in this order, until one is idle; return how many did."""
        for count, hand in enumerate(weaving):
            move = self._move(hand)
            if move is None:
                return count
            self._make(hand, move)
        return len(weaving)

    def __len__(self):
        return len(self._events)

    def _move(self, hand):
        """The next event of a hand, or None: its word, the copies that belong to it, and what self._at becomes."""
        if hand != 0 and self._plan.hands == "one":
            return None
        move = self._scanning_move(hand) if self._at is None else None
        if move is None and self._plan.hold > 0:
            return self._held_move()
        return move

    def _scanning_move(self, hand):
        """The next event of a hand while the scans from level 1 on are open."""
        outer, place, due = self._hands.get(hand, EMPTY_HAND)
        if due is not None:
            return "raise", due, None
        row = None if outer is None else self._next_row((outer,), place)
        if row is not None:
            return "fetch", (outer, row), None
        row = self._next_row((), self._place)
        return None if row is None else ("fetch", (row,), None)

    def _held_move(self):
        """The next event when the scans up to the level of hold are left for good."""
        _, place, due = self._hands.get(0, EMPTY_HAND)
        if due is not None:
            return "raise", due, self._at
        for at in range(self._at or 0, len(self._held)):
            copies = self._held[at]
            if len(copies) == len(self._read):
                return "raise", copies, at + 1
            row = self._next_row(copies, place)
            if row is not None:
                return "fetch", (*copies, row), at
            # The next collected copies have a scan of their own, which begins anew.
            place = None
        return None

    def _next_row(self, outer, place):
        """The row that the scan behind these copies returns next, from a place, or None."""
        table, path = self._read[len(outer)], self._levels.path(len(outer) + 1)
        least, most = self._levels.bounds(outer)
        row = table.next_row(path, place, least=least, most=most)
        if self._plan.order[len(outer)] in self._plan.marks:
            while row is not None and row[0] in self._touched:
                row = table.next_row(path, place_of(path, row), least=least, most=most)
        return row

    def _make(self, hand, move):
        """Make an event, and return it."""
        word, copies, at = move
        self._at = at
        if word == "raise":
            outer, place, _ = self._hands.get(hand, EMPTY_HAND)
            self._hands[hand] = (outer, place, None)
            event = ("raise", hand, self._raise_match(copies))
        else:
            self._fetch(hand, copies)
            event = ("fetch", hand, len(copies), copies[-1][0])
        self._events.append(event)
        return event

    def _fetch(self, hand, copies):
        """Take over the last of these copies, and decide what the hand has then."""
        level, row = len(copies), copies[-1]
        place = place_of(self._levels.path(level), row)
        outer, due = copies[0], None
        if level == 1:
            self._place, outer, place = place, None, None
        if self._levels.passes(copies):
            if level == self._plan.hold:
                self._held.append(copies)
            elif level == len(self._read):
                due = copies
            else:
                outer = row
        self._hands[hand] = (outer, place, due)

    def _raise_match(self, copies):
        """Note the telling of a match, write, and return the numbers of the match."""
        cells = self._levels.cells(copies)
        numbers = self._levels.numbers(copies)
        self._raised.append(telling(self._plan.statement, numbers, cells))
        self._writes.append((numbers, copies, self._write(numbers[0], cells)))
        return numbers

    def _write(self, target, cells):
        """Write what a match with this first row says; return the row that was written, removed or made, or None."""
        statement = self._plan.statement
        if statement.kind == "insert":
            values = made(statement, cells)
            number = self._table.put(*values)
            self._touched[number] = True
            return number
        if target not in self._table:
            return None
        if statement.kind == "delete":
            self._table.drop(target)
            return target
        # What a target has already is not written.
        old = self._table.values_of(target)
        new = settled(statement, cells, old)
        if new == old:
            return None
        self._table.change(target, new)
        self._touched[target] = True
        return target
