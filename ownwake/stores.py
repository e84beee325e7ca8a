"""Stores: a database that statements change, each by its chosen plan, and that goes back when it is asked to."""

from ownwake.choosing import choose
from ownwake.costs import sized_tables
from ownwake.databases import Database, next_number
from ownwake.errors import Empty
from ownwake.executing import executed
from ownwake.ratios import Ratio
from ownwake.schemas import Schema

# The share of rows that fulfil a condition, by its sign, and that of those for which a probe holds.
SHARES = {"<=": (1, 3), "=": (1, 10), "!=": (9, 10)}
PROBE_SHARE = (1, 2)


class Block:
    """The state to which a store goes back at most, as long as a block goes on; the outermost has none around it."""

    def __init__(self, outer, past, present):
        self.outer = outer
        self.past = past
        self.present = present


class Store:
    """A database that changes, with all that it was before."""

    def __init__(self, schema, *, hands="one"):
        self._hands = hands
        self._present = Database(schema)
        # The databases before all that counts, one by one.
        self._past = ()
        self._block = Block(None, self._past, self._present)

    @property
    def schema(self):
        """The schema."""
        return self._present.schema

    @property
    def database(self):
        """The database as it is now."""
        return self._present

    @property
    def hands(self):
        """The word one or many."""
        return self._hands

    def put(self, name, *values):
        """Make a new row, and return its number."""
        grown = self._present.with_row(name, *values)
        number = next_number(self._present, name)
        self._go_on(grown)
        return number

    def execute(self, statement):
        """Carry out a statement by its chosen plan, and return the tellings, ascending."""
        tellings, changed = executed(self._chosen(statement), self._present)
        self._go_on(changed)
        return tellings

    def explain(self, statement):
        """The lines of the chosen plan of a statement."""
        return self._chosen(statement).lines

    def undo(self):
        """Go back to the database before the last that counts."""
        if len(self._past) <= len(self._block.past):
            raise Empty()
        self._present = self._past[-1]
        self._past = self._past[:-1]

    def together(self, work, *arguments):
        """Let work change the store in a block, and return what it returns; an error undoes the block, and goes on."""
        block = Block(self._block, self._past, self._present)
        self._block = block
        undone = block
        try:
            result = work(self, *arguments)
            undone = None
        finally:
            self._block = block.outer
            if undone is not None:
                self._past = block.past
                self._present = block.present
        return result

    def add_table(self, table):
        """Take up a table without rows; then there is nothing to undo, also not in blocks that go on."""
        tables = self.schema.tables
        self._present = Database(Schema(*tables, table), self._present.data)
        self._past = ()
        block = self._block
        while block is not None:
            block.past = self._past
            block.present = self._present
            block = block.outer

    def _go_on(self, database):
        """Take over a database, and count it."""
        self._past = (*self._past, self._present)
        self._present = database

    def _chosen(self, statement):
        """The plan that is chosen for a statement, by what the tables have now."""
        sizes = tuple([(name, len(self._present[name])) for name in sized_tables(statement)])
        shares = [_ratio(SHARES[sign]) for _, sign, _, _ in statement.conditions]
        shares = shares + [_ratio(PROBE_SHARE) for _ in statement.probes]
        return choose(statement, sizes, tuple(shares), hands=self._hands)[0]

    def __len__(self):
        return len(self._past)


def _ratio(pair):
    """The fraction of a pair of integers."""
    top, bottom = pair
    return Ratio(top, bottom)
