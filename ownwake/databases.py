"""Databases: rows with numbers, for each table of a schema, and their texts."""

from ownwake.errors import Duplicate, InvalidDatabase, InvalidText, NoRow, NoTable
from ownwake.forms import is_ascending, is_integer, is_name, is_natural, is_tuple
from ownwake.texts import lines_of, read_integer, read_natural


class Database:
    """The rows and the next number of each table of a schema; it never changes."""

    def __init__(self, schema, data=()):
        if not _are_parts(schema, data):
            raise InvalidDatabase("")
        for part in data:
            if not _is_right_part(schema[part[0]], part):
                raise InvalidDatabase(part[0])
        told = {part[0]: part for part in data}
        self._schema = schema
        self._data = tuple([told.get(table[0], (table[0], 0, ())) for table in schema.tables])
        for table, part in zip(schema.tables, self._data):
            found = first_duplicate(table, part[2])
            if found is not None:
                raise Duplicate(found[0], found[1])
        self._tables = {part[0]: part[2] for part in self._data}
        self._rows = {(name, number): values for name, _, rows in self._data for number, values in rows}

    @property
    def schema(self):
        """The schema."""
        return self._schema

    @property
    def data(self):
        """For each table, ascending by name, its name, its next number and its rows."""
        return self._data

    @property
    def text(self):
        """The database written in lines."""
        return "\n".join([line for part in self._data for line in _part_lines(part)])

    @classmethod
    def read(cls, schema, text):
        """The database of a schema that a text tells."""
        return cls(schema, _read_data(schema, lines_of(text)))

    def row(self, name, number):
        """The values of a row."""
        if name not in self._schema:
            raise NoTable(name)
        if (name, number) not in self:
            raise NoRow(name, number)
        return self._rows[name, number]

    def with_row(self, name, *values):
        """A new database with a new row of these values."""
        if name not in self._schema:
            raise NoTable(name)
        data = [_grown(part, values) if part[0] == name else part for part in self._data]
        return Database(self._schema, tuple(data))

    def alike(self, other, before):
        """Whether this database and another one are alike after a database."""
        if not self._schema == other._schema:
            return False
        return all([_are_alike(one, two, old[1]) for one, two, old in zip(self._data, other._data, before._data)])

    def __getitem__(self, at):
        if at not in self._schema:
            raise NoTable(at)
        return self._tables[at]

    def __iter__(self):
        raise TypeError("a database is not gone through: take its data")

    def __contains__(self, x):
        return is_tuple(x, 2) and isinstance(x[0], str) and is_integer(x[1]) and x in self._rows

    def __len__(self):
        return len(self._rows)

    def __eq__(self, other):
        return isinstance(other, Database) and self._schema == other._schema and self._data == other._data


def next_number(database, name):
    """The number that the next new row of a table gets."""
    return [part[1] for part in database.data if part[0] == name][0]


def first_duplicate(table, rows):
    """The first key column of a table, and its least value, that two of the rows have; or None."""
    columns, keyed = table[1], table[3]
    for at, column in enumerate(columns):
        if column in keyed:
            found = sorted([values[at] for _, values in rows])
            twice = [one for one, other in zip(found, found[1:]) if one == other]
            if twice != []:
                return column, twice[0]
    return None


def _are_parts(schema, data):
    """Whether any value is an ascending tuple of triples with distinct names of tables of the schema."""
    if not isinstance(data, tuple) or not all([is_tuple(part, 3) and part[0] in schema for part in data]):
        return False
    return is_ascending([part[0] for part in data])


def _is_right_part(table, part):
    """Whether a triple has a next number, and rows as this table has them."""
    _, following, rows = part
    if not is_natural(following) or not isinstance(rows, tuple):
        return False
    if not all([_is_row(row, len(table[1])) for row in rows]):
        return False
    return is_ascending([row[0] for row in rows]) and all([row[0] < following for row in rows])


def _is_row(thing, width):
    """Whether any value is a row with so many values."""
    if not is_tuple(thing, 2) or not is_natural(thing[0]) or not is_tuple(thing[1], width):
        return False
    return all([is_integer(cell) for cell in thing[1]])


def _grown(part, values):
    """The part of a table with a new row of these values, right or not."""
    name, following, rows = part
    return name, following + 1, (*rows, (following, values))


def _are_alike(one, other, following):
    """Whether two parts of a table have the same rows below a number, and the same values in the others."""
    old = [[row for row in part[2] if row[0] < following] for part in (one, other)]
    new = [sorted([values for number, values in part[2] if number >= following]) for part in (one, other)]
    return old[0] == old[1] and new[0] == new[1]


def _part_lines(part):
    """The lines of a table."""
    name, following, rows = part
    return [f"{name} next {following}"] + [row_text(row) for row in rows]


def row_text(row):
    """The line of a row."""
    return f"{row[0]}: {', '.join([str(cell) for cell in row[1]])}"


def _read_data(schema, lines):
    """The data that lines tell, whether or not a database of the schema can have it."""
    parts = []
    for at, line in enumerate(lines):
        head, row = _read_head(line), _read_row(line)
        rows = parts[-1][2] if parts != [] else []
        if head is not None and (parts == [] or parts[-1][0] < head[0]):
            parts.append((head[0], head[1], []))
        elif row is not None and parts != [] and (rows == [] or rows[-1][0] < row[0]):
            rows.append(row)
        else:
            raise InvalidText(at)
    names = [name for name, _, _ in parts]
    if not all([table[0] in names for table in schema.tables]):
        raise InvalidText(len(lines))
    return tuple([(name, following, tuple(rows)) for name, following, rows in parts])


def _read_head(line):
    """The name and the next number that a table's line tells, or None."""
    words = line.split(" ")
    if len(words) != 3 or not is_name(words[0]) or words[1] != "next":
        return None
    following = read_natural(words[2])
    return None if following is None else (words[0], following)


def _read_row(line):
    """The row that a line tells, or None."""
    front, _, back = line.partition(": ")
    number = read_natural(front)
    values = tuple([read_integer(word) for word in back.split(", ")])
    return None if number is None or None in values else (number, values)
