"""What a plan does at its levels: where it tests conditions and probes, and what bounds its scans."""

from ownwake.cells import all_answered, all_hold, link_values, row_cells, sum_of
from ownwake.planparts import HEAP


def condition_level(order, condition):
    """The level at which a condition is tested."""
    return max([order.index(cell[0]) + 1 for cell in (condition[0], condition[2]) if cell is not None])


def probe_level(order, probe):
    """The level at which a probe is tested."""
    return order.index(probe[3][2][0]) + 1


def bounds_scan(plan, level, condition):
    """Whether a condition bounds the scan of a level."""
    path = plan.paths[level - 1]
    x, sign, y, _ = condition
    if path == HEAP or sign == "!=" or condition_level(plan.order, condition) != level:
        return False
    cell = (plan.order[level - 1], path[1])
    if y is None:
        return x == cell
    return x[0] != y[0] and cell in (x, y)


class Levels:
    """How a plan reads a database, level by level; copies are rows, one for each level from 1 on."""

    def __init__(self, plan, database):
        schema, tables = database.schema, dict(plan.statement.references)
        conditions = plan.statement.conditions
        asked = [(probe, link_values(probe, database)) for probe in plan.statement.probes]
        levels = range(1, len(plan.order) + 1)
        self._plan = plan
        self._tables = [tables[alias] for alias in plan.order]
        self._columns = [schema[name][1] for name in self._tables]
        self._paths = [_numbered(path, columns) for path, columns in zip(plan.paths, self._columns)]
        self._tested = [[some for some in conditions if condition_level(plan.order, some) == level]
                        for level in levels]
        self._bounding = [[some for some in conditions if bounds_scan(plan, level, some)] for level in levels]
        self._probes = [[some for some in asked if probe_level(plan.order, some[0]) == level] for level in levels]

    def table_name(self, level):
        """The name of the table that is read at a level."""
        return self._tables[level - 1]

    def path(self, level):
        """The path of a level, its column given by its index."""
        return self._paths[level - 1]

    def cells(self, copies):
        """The cells of copies."""
        order = self._plan.order
        return row_cells([(alias, columns, row[1]) for alias, columns, row in zip(order, self._columns, copies)])

    def numbers(self, copies):
        """The numbers of copies of all levels, in the order of the references."""
        found = {alias: row[0] for alias, row in zip(self._plan.order, copies)}
        return tuple([found[alias] for alias, _ in self._plan.statement.references])

    def passes(self, copies):
        """Whether the last of these copies passes the tests of its level."""
        level, cells = len(copies), self.cells(copies)
        return all_hold(self._tested[level - 1], cells) and all_answered(self._probes[level - 1], cells)

    def fails_alone(self, level, row):
        """Whether a row fails the tests of its level whatever the copies before it are."""
        cells = row_cells([(self._plan.order[level - 1], self._columns[level - 1], row[1])])
        alone = [some for some in self._tested[level - 1] if some[0] in cells and (some[2] is None or some[2] in cells)]
        return not (all_hold(alone, cells) and all_answered(self._probes[level - 1], cells))

    def bounds(self, outer):
        """The least and the most value, or None, of the scan of the level behind these copies."""
        bounding = self._bounding[len(outer)]
        if bounding == []:
            return None, None
        column = (self._plan.order[len(outer)], self._plan.paths[len(outer)][1])
        cells = self.cells(outer)
        below = [(sum_of(cells, y, k), sign) for x, sign, y, k in bounding if x == column]
        above = [(cells[x] - k, sign) for x, sign, y, k in bounding if y == column]
        least = [value for value, _ in above] + [value for value, sign in below if sign == "="]
        most = [value for value, _ in below] + [value for value, sign in above if sign == "="]
        return max(least, default=None), min(most, default=None)


def _numbered(path, columns):
    """A path with the index of its column."""
    return path if path == HEAP else (path[0], columns.index(path[1]))
