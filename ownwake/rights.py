"""Whether what a run raises is right: a match of the beginning, for the first time, as its rows stood."""

from ownwake.levels import Levels


class Rights:
    """What is right for the runs of a plan on a database."""

    def __init__(self, plan, database):
        statement = plan.statement
        tables = dict(statement.references)
        self._database = database
        self._levels = Levels(plan, database)
        self._tables = [tables[alias] for alias in plan.order]
        self._read = [_indexes(statement, alias, tables[alias]) for alias in plan.order]

    def fault(self, copies, again):
        """What is wrong with a match that is raised from these copies, perhaps again; or None."""
        places = [(name, row[0]) for name, row in zip(self._tables, copies)]
        if not all([place in self._database for place in places]):
            return "extra"
        rows = tuple([(number, self._database.row(name, number)) for name, number in places])
        if not all([self._levels.passes(rows[:level]) for level in range(1, len(rows) + 1)]):
            return "extra"
        if again:
            return "again"
        return None if self._are_as_read(copies, rows) else "changed"

    def _are_as_read(self, copies, rows):
        """Whether copies have the values of these rows in all columns that their references read."""
        return all([copy[1][at] == row[1][at] for copy, row, read in zip(copies, rows, self._read) for at in read])


def _indexes(statement, alias, name):
    """The indexes of the columns that a reference to this table reads."""
    columns = statement.schema[name][1]
    return [columns.index(column) for column in statement.reads(alias)]
