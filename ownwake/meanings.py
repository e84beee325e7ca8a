"""What a statement means at one moment."""

from ownwake.cells import all_answered, all_hold, link_values, made, row_cells, settled, telling
from ownwake.databases import Database


def matches(statement, database):
    """Yield the matches of a statement in a database, ascending."""
    fitting = [_fitting_rows(statement, database, alias, table) for alias, table in statement.references]
    if len(fitting) == 1:
        for number, _ in fitting[0]:
            yield (number,)
        return
    joining = [some for some in statement.conditions if len(_aliases(some)) == 2]
    for first, one in fitting[0]:
        for second, other in fitting[1]:
            if all_hold(joining, row_cells([one, other])):
                yield first, second


def _fitting_rows(statement, database, alias, table):
    """The rows that fulfil what concerns this reference alone, each as its number and what its cells are made of."""
    columns = database.schema[table][1]
    conditions = [some for some in statement.conditions if _aliases(some) == [alias]]
    probes = [(probe, link_values(probe, database)) for probe in statement.probes if probe[3][2][0] == alias]
    fitting = []
    for number, values in database[table]:
        row = (alias, columns, values)
        cells = row_cells([row])
        if all_hold(conditions, cells) and all_answered(probes, cells):
            fitting.append((number, row))
    return fitting


def _aliases(condition):
    """The aliases of the references of a condition, ascending."""
    return sorted({cell[0] for cell in (condition[0], condition[2]) if cell is not None})


def meaning(statement, database):
    """The tellings of all matches, ascending, and the database that comes of the statement."""
    found = [(numbers, _match_cells(statement, database, numbers)) for numbers in matches(statement, database)]
    tellings = tuple([telling(statement, numbers, cells) for numbers, cells in found])
    data = [_written(statement, part, found) if part[0] == statement.table else part for part in database.data]
    return tellings, Database(database.schema, tuple(data))


def _match_cells(statement, database, numbers):
    """The cells of the rows of a match."""
    rows = [(alias, database.schema[table][1], database.row(table, number))
            for (alias, table), number in zip(statement.references, numbers)]
    return row_cells(rows)


def _written(statement, part, found):
    """The part of the written table as the matches, with their cells, leave it."""
    name, following, rows = part
    if statement.kind == "insert":
        new = [(following + at, made(statement, cells)) for at, (_, cells) in enumerate(found)]
        return name, following + len(new), (*rows, *new)
    targets = {numbers[0]: cells for numbers, cells in found}
    if statement.kind == "delete":
        return name, following, tuple([row for row in rows if row[0] not in targets])
    changed = [(number, settled(statement, targets[number], values) if number in targets else values)
               for number, values in rows]
    return name, following, tuple(changed)
