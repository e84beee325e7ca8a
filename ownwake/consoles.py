"""Consoles: a store that is told what to do in lines, and answers."""

from ownwake.databases import row_text
from ownwake.deciding import decide
from ownwake.errors import InvalidLine, InvalidText
from ownwake.plans import Plan
from ownwake.schemas import Schema, is_table, read_table
from ownwake.statements import Statement
from ownwake.stores import Store
from ownwake.texts import read_integer

MOST_TABLES = 4
MOST_INDEXES = 1
DONE = "ok"
STATEMENT_WORDS = ("do", "plan", "sound")


class Console:
    """A store, at first without tables, to which lines are said."""

    def __init__(self):
        self._store = Store(Schema())

    @property
    def store(self):
        """The store."""
        return self._store

    def say(self, line):
        """Do what a line says, and return the answer."""
        if not isinstance(line, str) or "\n" in line:
            raise InvalidLine(line)
        word, _, rest = line.partition(" ")
        if word == "table":
            return self._add_table(line)
        if word == "row":
            return self._put_row(line, rest)
        if word == "show":
            return self._show(line, rest)
        if word in STATEMENT_WORDS:
            return self._tell(word, self._read_statement(line, rest))
        if line != "undo":
            raise InvalidLine(line)
        self._store.undo()
        return DONE

    def _add_table(self, line):
        """Add the table that a line tells."""
        table, schema = read_table(line), self._store.schema
        if not is_table(table) or len(table[2]) > MOST_INDEXES or len(schema) >= MOST_TABLES or table[0] in schema:
            raise InvalidLine(line)
        self._store.add_table(table)
        return DONE

    def _put_row(self, line, rest):
        """Put the row that the rest of a line tells."""
        name, *words = rest.split(" ")
        values = [read_integer(word) for word in words]
        schema = self._store.schema
        if name not in schema or None in values or len(values) != len(schema[name][1]):
            raise InvalidLine(line)
        return str(self._store.put(name, *values))

    def _show(self, line, name):
        """The rows of the table with this name."""
        if name not in self._store.schema:
            raise InvalidLine(line)
        return _joined([row_text(row) for row in self._store.database[name]])

    def _read_statement(self, line, rest):
        """The statement that the rest of a line tells."""
        try:
            return Statement.read(self._store.schema, rest.replace("; ", "\n"))
        except InvalidText:
            raise InvalidLine(line) from None

    def _tell(self, word, statement):
        """The answer to a line with this word and a statement."""
        if word == "plan":
            return _joined(self._store.explain(statement))
        if word == "sound":
            return decide(Plan(statement))[0]
        return _joined([_telling_text(telling) for telling in self._store.execute(statement)])


def _joined(parts):
    """Texts with signs between them, or the word for nothing."""
    return "; ".join(parts) if len(parts) > 0 else "none"


def _telling_text(telling):
    """The numbers and the values of a telling."""
    numbers, values = [" ".join([str(some) for some in part]) for part in telling]
    return numbers if values == "" else f"{numbers}: {values}"
