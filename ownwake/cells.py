"""Values of columns in hand, and what conditions, probes, settings and told columns make of them.

Cells are a dict of values: of column references, or of the columns of a probed table.
"""


def row_cells(rows):
    """The cells of rows that stand for references, each given as alias, columns and values."""
    return {(alias, column): value for alias, columns, values in rows for column, value in zip(columns, values)}


def compare(left, sign, right):
    """Whether two values are as the sign says."""
    if sign == "<=":
        return left <= right
    if sign == ">=":
        return left >= right
    return left == right if sign == "=" else left != right


def sum_of(cells, source, k):
    """The value of the source plus k, or k without a source."""
    return k if source is None else cells[source] + k


def all_hold(conditions, cells):
    """Whether all of these conditions hold."""
    for x, sign, y, k in conditions:
        if not compare(cells[x], sign, sum_of(cells, y, k)):
            return False
    return True


def link_values(probe, database):
    """The values in the link's column of the rows that fulfil a probe's own conditions."""
    _, table, own, link = probe
    columns = database.schema[table][1]
    rows = [dict(zip(columns, values)) for _, values in database[table]]
    return [cells[link[0]] for cells in rows if all_hold(own, cells)]


def all_answered(probes, cells):
    """Whether all of these probes hold, each given with its link values."""
    for (word, _, _, (_, sign, reference, k)), found in probes:
        if any([compare(value, sign, cells[reference] + k) for value in found]) != (word == "some"):
            return False
    return True


def settled(statement, cells, values):
    """The values of a row of the written table with the statement's settings."""
    settings = {column: sum_of(cells, source, k) for column, source, k in statement.settings}
    columns = statement.schema[statement.table][1]
    return tuple([settings.get(column, value) for column, value in zip(columns, values)])


def made(statement, cells):
    """The values of the new row of an insert."""
    return tuple([sum_of(cells, source, k) for _, source, k in statement.settings])


def telling(statement, numbers, cells):
    """What a match with these numbers tells."""
    return numbers, tuple([cells[told] for told in statement.told])
