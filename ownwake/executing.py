"""What comes of a sound plan that one hand carries out, without its events."""

from ownwake.databases import Database, next_number
from ownwake.levels import Levels
from ownwake.meanings import meaning
from ownwake.scans import place_of


def executed(plan, database):
    """The tellings, ascending, and the database that a sound plan leaves."""
    statement = plan.statement
    tellings, after = meaning(statement, database)
    if statement.kind != "insert":
        return tellings, after
    # New rows have the order of their matches in the meaning; the plan makes them in the order of its scans.
    following = next_number(database, statement.table)
    new = [values for number, values in after[statement.table] if number >= following]
    turns = _turns(plan, database, [numbers for numbers, _ in tellings])
    rows = (*database[statement.table], *[(following + at, new[turn]) for at, turn in enumerate(turns)])
    data = [(part[0], part[1], rows) if part[0] == statement.table else part for part in after.data]
    return tellings, Database(database.schema, tuple(data))


def _turns(plan, database, found):
    """The indexes of matches in the order in which a sound plan raises them."""
    levels = Levels(plan, database)
    aliases = [alias for alias, _ in plan.statement.references]
    chosen = [aliases.index(alias) for alias in plan.order]
    ranks = [_ranks(levels.path(level), database[levels.table_name(level)]) for level in range(1, len(chosen) + 1)]
    turns = [(tuple([some[numbers[at]] for at, some in zip(chosen, ranks)]), turn)
             for turn, numbers in enumerate(found)]
    return [turn for _, turn in sorted(turns)]


def _ranks(path, rows):
    """By their numbers how many rows a scan by a path returns before each of some rows."""
    places = sorted([(place_of(path, row), row[0]) for row in rows])
    if path[0] == "down":
        places = places[::-1]
    return {number: rank for rank, (_, number) in enumerate(places)}
