"""Small databases that the values of unknowns tell."""

from ownwake.atoms import NUMBER, is_held
from ownwake.databases import Database
from ownwake.grounds import PROBE_ROLES
from ownwake.scenes import named_roles


def exhibit(plan, counts, clauses, pairs):
    """The database that a solution of clauses tells: so many rows with each role, and those of the probes."""
    statement = plan.statement
    worth = worth_of(pairs)
    named = [(role, name, list(range(counts[role]))) for role, name in named_roles(plan)]
    rows = {name: [(number, (role, (row,))) for number, row in zip(numbers_of(role, counts[role], worth), indexes)]
            for role, name, indexes in named}
    for role, probe in zip(PROBE_ROLES, statement.probes):
        rows[probe[1]] = [(number, (role, row)) for number, row in enumerate(_answering(role, clauses, worth))]
    data = [_part(table, rows.get(table[0], []), worth) for table in statement.schema.tables]
    return Database(statement.schema, tuple(data))


def worth_of(pairs):
    """The values of unknowns, and of `()`, as a dict."""
    worth = {unknown: value for unknown, value in pairs}
    worth[()] = 0
    return worth


def numbers_of(role, count, worth):
    """The numbers that so many rows with a role get; the least one is 0."""
    told = [worth.get((role, (row,), NUMBER), 0) for row in range(count)]
    return [number - min(told) for number in told]


def _answering(role, clauses, worth):
    """The rows with the role of a probe that are named by an alternative which holds, ascending."""
    held = [alternative for clause in clauses for alternative in clause
            if all([is_held(atom, worth) for atom in alternative])]
    return sorted({side[1] for alternative in held for u, v, _ in alternative for side in (u, v)
                   if side != () and side[0] == role})


def _part(table, rows, worth):
    """The part of a table with rows, each given by its number and its role and row; other values are any."""
    told = sorted([(number, tuple([worth.get((*place, column), 0) for column in table[1]])) for number, place in rows])
    return table[0], max([number + 1 for number, _ in told], default=0), tuple(told)
