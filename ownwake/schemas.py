"""Schemas: tables with their columns, indexes and keys, and their texts."""

from ownwake.errors import InvalidSchema, InvalidText, NoTable
from ownwake.forms import is_ascending, is_name, is_tuple
from ownwake.texts import lines_of

MOST_COLUMNS = 3


class Schema:
    """Tables with distinct names, perhaps none."""

    def __init__(self, *tables):
        named = {}
        for at, table in enumerate(tables):
            if not is_table(table) or table[0] in named:
                raise InvalidSchema(at)
            named[table[0]] = table
        self._named = named
        self._tables = tuple([named[name] for name in sorted(named)])

    @property
    def tables(self):
        """The tables, ascending by name."""
        return self._tables

    @property
    def text(self):
        """The schema written in lines."""
        return "\n".join([_table_text(table) for table in self._tables])

    @classmethod
    def read(cls, text):
        """The schema that a text tells."""
        tables = _read_tables(lines_of(text))
        return cls(*tables)

    def __getitem__(self, at):
        if at not in self:
            raise NoTable(at)
        return self._named[at]

    def __iter__(self):
        raise TypeError("a schema is not gone through: take its tables")

    def __contains__(self, x):
        return isinstance(x, str) and x in self._named

    def __len__(self):
        return len(self._tables)

    def __eq__(self, other):
        return isinstance(other, Schema) and self._tables == other._tables


def is_table(thing):
    """Whether any value is a table."""
    if not is_tuple(thing, 4):
        return False
    name, columns, indexes, keyed = thing
    return is_name(name) and _are_columns(columns) and _are_some(indexes, columns) and _are_some(keyed, columns)


def _are_columns(thing):
    """Whether any value is a tuple of one to three distinct names."""
    if not isinstance(thing, tuple) or not 1 <= len(thing) <= MOST_COLUMNS:
        return False
    return all([is_name(column) for column in thing]) and len(set(thing)) == len(thing)


def _are_some(thing, columns):
    """Whether any value is an ascending tuple of some of these columns."""
    return isinstance(thing, tuple) and all([column in columns for column in thing]) and is_ascending(thing)


def _table_text(table):
    """The line of a table."""
    name, columns, indexes, keyed = table
    words = [f" index {column}" for column in indexes] + [f" key {column}" for column in keyed]
    return f"table {name} ({', '.join(columns)}){''.join(words)}"


def _read_tables(lines):
    """The tables that lines tell, whether or not a schema can have them."""
    tables = []
    for at, line in enumerate(lines):
        table = read_table(line)
        if table is None or tables and table[0] <= tables[-1][0]:
            raise InvalidText(at)
        tables.append(table)
    return tables


def read_table(line):
    """The table that a line tells, or None if the line does not have the form."""
    front, _, rest = line.partition(" (")
    inner, closing, back = rest.partition(")")
    word, _, name = front.partition(" ")
    columns = tuple(inner.split(", "))
    if closing == "" or word != "table":
        return None
    marked = _read_marked(back)
    if marked is None or not all([is_name(some) for some in (name, *columns, *marked[0], *marked[1])]):
        return None
    return name, columns, marked[0], marked[1]


def _read_marked(text):
    """The words behind ` index`, and those behind ` key`, in a text of such pairs, or None."""
    words = text.split(" ")
    labels, columns = words[1::2], tuple(words[2::2])
    indexes = labels.count("index")
    expected = ["index"] * indexes + ["key"] * (len(labels) - indexes)
    if words[0] != "" or labels != expected or len(columns) != len(labels):
        return None
    return columns[:indexes], columns[indexes:]
