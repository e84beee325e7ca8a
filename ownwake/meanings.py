"""What a statement means at one moment."""

from ownwake.cells import all_answered, all_hold, compare, link_values, made, row_cells, settled, sum_of, telling
from ownwake.databases import Database


def matches(statement, database):
    """Yield the matches of a statement in a database, ascending."""
    fitting = [_fitting_rows(statement, database, alias, table) for alias, table in statement.references]
    if len(fitting) == 1:
        for number, _ in fitting[0]:
            yield (number,)
        return
    joining = [some for some in statement.conditions if len(_aliases(some)) == 2]
    for first, cells in fitting[0]:
        partners = fitting[1]
        for condition in joining:
            partners = _partners(condition, cells, partners)
        for second, _ in partners:
            yield first, second


def _fitting_rows(statement, database, alias, table):
    """The rows that fulfil what concerns this reference alone, each as its number and its cells."""
    columns = database.schema[table][1]
    conditions = [some for some in statement.conditions if _aliases(some) == [alias]]
    probes = [(probe, link_values(probe, database)) for probe in statement.probes if probe[3][2][0] == alias]
    rows = [(number, row_cells([(alias, columns, values)])) for number, values in database[table]]
    return [row for row in rows if all_hold(conditions, row[1]) and all_answered(probes, row[1])]


def _partners(condition, cells, rows):
    """Those of some rows that fulfil a condition together with a row of the other reference that has these cells."""
    x, sign, y, k = condition
    if x in cells:
        limit = cells[x] - k
        return [row for row in rows if compare(limit, sign, row[1][y])]
    limit = sum_of(cells, y, k)
    return [row for row in rows if compare(row[1][x], sign, limit)]


def _aliases(condition):
    """The aliases of the references of a condition, ascending."""
    return sorted({cell[0] for cell in (condition[0], condition[2]) if cell is not None})


def meaning(statement, database):
    """The tellings of all matches, ascending, and the database that comes of the statement."""
    known = [_numbered_cells(database, alias, table) for alias, table in statement.references]
    tellings, new = [], []
    for numbers in matches(statement, database):
        cells = _joined_cells(known, numbers)
        tellings.append(telling(statement, numbers, cells))
        if statement.kind == "insert":
            new.append(made(statement, cells))
    targets = {numbers[0]: known[0][numbers[0]] for numbers, _ in tellings}
    data = [_written(statement, part, targets, new) if part[0] == statement.table else part for part in database.data]
    return tuple(tellings), Database(database.schema, tuple(data))


def _numbered_cells(database, alias, table):
    """The cells of the rows of a reference, by their numbers."""
    columns = database.schema[table][1]
    return {number: row_cells([(alias, columns, values)]) for number, values in database[table]}


def _joined_cells(known, numbers):
    """The cells of the rows of a match."""
    parts = [cells[number] for cells, number in zip(known, numbers)]
    return parts[0] if len(parts) == 1 else {cell: part[cell] for part in parts for cell in part}


def _written(statement, part, targets, new):
    """The part of the written table as targets, by number with their cells, and new rows, by their values, leave it."""
    name, following, rows = part
    if statement.kind == "insert":
        made_rows = [(following + at, values) for at, values in enumerate(new)]
        return name, following + len(new), (*rows, *made_rows)
    if statement.kind == "delete":
        return name, following, tuple([row for row in rows if row[0] not in targets])
    changed = [(number, settled(statement, targets[number], values) if number in targets else values)
               for number, values in rows]
    return name, following, tuple(changed)
