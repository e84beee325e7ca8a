"""Statements: updates, deletes and inserts, and their texts."""

from ownwake.errors import InvalidStatement
from ownwake.statementparts import first_wrong
from ownwake.statementtexts import read_parts, statement_text


class Statement:
    """A statement over the tables of a schema; it never changes."""

    def __init__(self, schema, kind, table, references, *, conditions=(), probes=(), settings=(), told=()):
        parts = (kind, table, references, conditions, probes, settings, told)
        wrong = first_wrong(schema, parts)
        if wrong is not None:
            raise InvalidStatement(wrong)
        self._schema = schema
        self._parts = parts

    @property
    def schema(self):
        """The schema."""
        return self._schema

    @property
    def kind(self):
        """The word update, delete or insert."""
        return self._parts[0]

    @property
    def table(self):
        """The name of the written table."""
        return self._parts[1]

    @property
    def references(self):
        """The pairs of an alias and a table."""
        return self._parts[2]

    @property
    def conditions(self):
        """The conditions."""
        return self._parts[3]

    @property
    def probes(self):
        """The probes."""
        return self._parts[4]

    @property
    def settings(self):
        """The settings."""
        return self._parts[5]

    @property
    def told(self):
        """The column references that are told."""
        return self._parts[6]

    @property
    def parts(self):
        """All that a statement has besides its schema."""
        return self._parts

    @property
    def text(self):
        """The statement written in lines."""
        return statement_text(self._parts)

    @classmethod
    def read(cls, schema, text):
        """The statement of a schema that a text tells."""
        kind, table, references, conditions, probes, settings, told = read_parts(text)
        return cls(schema, kind, table, references,
                   conditions=conditions, probes=probes, settings=settings, told=told)

    def reads(self, alias):
        """The columns that the reference with this alias reads, ascending."""
        compared = [cell for x, _, y, _ in self.conditions for cell in (x, y) if cell is not None]
        linked = [link[2] for _, _, _, link in self.probes]
        sources = [source for _, source, _ in self.settings if source is not None]
        cells = [*compared, *linked, *sources, *self.told]
        return tuple(sorted({column for name, column in cells if name == alias}))

    def __eq__(self, other):
        return isinstance(other, Statement) and self._schema == other._schema and self._parts == other._parts
