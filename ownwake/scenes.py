"""What a suspect tells: which rows the match that disturbs and its writers have, and with which terms.

Levels are counted from 1. A row is known by the role of its table and its number in `same`; a new row is None. The
cells of a match are a dict of terms: of column references.
"""

from ownwake.atoms import NUMBER
from ownwake.formulas import plus

WRITTEN = "written"
OTHER = "other"


class Sight:
    """A match by levels: its rows, and its cells."""

    def __init__(self, own_rows, terms):
        self.own_rows = own_rows
        self.terms = terms


class Scene:
    """A suspect of a plan: the match that disturbs, and for each of its levels a writer."""

    def __init__(self, plan, suspect):
        kind, levels, same = suspect
        slots = slots_of(plan, kind, levels)
        self._plan = plan
        self._kind = kind
        self.levels = levels
        self.roles = roles_of(plan)
        self._counts = {role: len(set([number for slot, number in zip(slots, same) if slot == role]))
                        for role in (WRITTEN, OTHER)}
        rows, told = self._told_rows(same)
        self.writers = {level: self.sight(told[level]) for level in levels}
        self.disturber = Sight(rows, self._disturbing_cells(rows))

    @property
    def plan(self):
        """The plan."""
        return self._plan

    @property
    def kind(self):
        """The kind of the suspect."""
        return self._kind

    def _told_rows(self, same):
        """The rows of the match that disturbs, and by level those of the writers, as `same` tells them in turn."""
        waiting = list(same[::-1])
        rows = [None if self._kind == "new" and level in self.levels else waiting.pop() for level in self._all_levels()]
        target = target_level(self._plan)
        told = {}
        for writer in self.levels:
            told[writer] = tuple([rows[writer - 1] if self._kind != "new" and level == target else waiting.pop()
                                  for level in self._all_levels()])
        return tuple(rows), told

    def _all_levels(self):
        """All levels of the plan."""
        return list(range(1, len(self.roles) + 1))

    def row_count(self, role):
        """How many rows there are of the written table, or of the other one."""
        return self._counts[role]

    def sight(self, rows):
        """A match of rows as they stood at the beginning."""
        return Sight(rows, {(alias, column): self.term(role, row, column)
                            for alias, role, row in zip(self._plan.order, self.roles, rows)
                            for column in self._columns_of(alias)})

    def _columns_of(self, alias):
        """The columns of the table of a reference."""
        statement = self._plan.statement
        return statement.schema[dict(statement.references)[alias]][1]

    def term(self, role, row, column):
        """The term of a column, or of the number, of a row as it stood at the beginning."""
        return (role, (row,), column), 0

    def number_term(self, level, row):
        """The term of the number of a row of a level."""
        return self.term(self.roles[level - 1], row, NUMBER)

    def _disturbing_cells(self, rows):
        """The cells of the match that disturbs."""
        cells = {}
        for level, row in enumerate(rows, start=1):
            alias, new = self._plan.order[level - 1], self._new_terms(level, row)
            for column in self._columns_of(alias):
                # Without a setting the column is that of a row which is not new.
                cells[alias, column] = new[column] if column in new else self.term(self.roles[level - 1], row, column)
        return cells

    def _new_terms(self, level, row):
        """The terms of the columns that are set at a level of the match that disturbs."""
        if not self.is_moved(level):
            return {}
        return self._made(self.writers[level]) if row is None else self.changed(row)

    def is_moved(self, level):
        """Whether the match that disturbs has a changed or new row at a level."""
        return self._kind != "missed" and level in self.levels

    def changed(self, row):
        """The terms that the settings of an update give to the set columns of a row."""
        return {column: ((), k) if source is None else plus(self.term(WRITTEN, row, source[1]), k)
                for column, source, k in self._plan.statement.settings}

    def _made(self, writer):
        """The terms of the new row that an insert makes for a match."""
        return {column: ((), k) if source is None else plus(writer.terms[source], k)
                for column, source, k in self._plan.statement.settings}


def target_level(plan):
    """The level of the target; of an insert, that of the first reference."""
    return plan.order.index(plan.statement.references[0][0]) + 1


def roles_of(plan):
    """The roles of the tables of all levels."""
    tables = dict(plan.statement.references)
    return [WRITTEN if tables[alias] == plan.statement.table else OTHER for alias in plan.order]


def named_roles(plan):
    """The roles of the tables of the references, each with the name of its table."""
    tables = dict(plan.statement.references)
    named = {role: tables[alias] for role, alias in zip(roles_of(plan), plan.order)}
    return [(role, named[role]) for role in (WRITTEN, OTHER) if role in named]


def slots_of(plan, kind, levels):
    """The roles of the rows that `same` tells of, in turn."""
    roles = roles_of(plan)
    if kind == "new":
        return [role for level, role in enumerate(roles, start=1) if level not in levels] + roles * len(levels)
    target = target_level(plan)
    return roles + [role for level, role in enumerate(roles, start=1) if level != target] * len(levels)
