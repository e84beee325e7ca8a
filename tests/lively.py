"""Random statements that often meet their own rows, over small tables with keys and indexes."""

from ownwake.databases import Database
from ownwake.schemas import Schema
from ownwake.statements import Statement

COLUMNS = ("a", "b", "c")


def lively_table(source, name, width, keyed):
    columns = COLUMNS[:width]
    indexes = tuple(column for column in columns if source.random() < 0.8)
    return name, columns, indexes, tuple(column for column in columns if source.random() < keyed)


def lively_statement(source, kind=None, references=None, conditions=None, probes=0.3, keyed=0.0, spread=2):
    """A statement over t and u, probing p and r; how many references and conditions it has can be told."""
    schema = Schema(lively_table(source, "t", source.choice((1, 2, 2, 3)), keyed),
                    lively_table(source, "u", source.choice((1, 2)), keyed),
                    ("p", ("q",), (), ()), ("r", ("a", "b"), (), ()))
    kind = kind or source.choice(("update", "update", "delete", "insert"))
    named = [("x", "t" if kind != "insert" else source.choice("ttu"))]
    if (references or source.choice((1, 2, 2, 2))) == 2:
        named.append(("y", source.choice("tu")))
    cells = [(alias, column) for alias, name in named for column in schema[name][1]]
    found = []
    for _ in range(source.choice((0, 1, 1, 2, 2, 3)) if conditions is None else conditions):
        x = source.choice(cells)
        others = [None, *cells, *[cell for cell in cells if cell[0] != x[0]]]
        found.append((x, source.choice(("<=", "<=", "=", "!=")), source.choice(others), source.randint(-spread, spread)))
    return Statement(schema, kind, "t", tuple(named), conditions=tuple(found),
                     probes=lively_probes(source, schema, cells, probes, spread),
                     settings=lively_settings(source, schema, kind, cells, spread),
                     told=tuple(source.choice(cells) for _ in range(source.choice((0, 0, 1)))))


def lively_probes(source, schema, cells, share, spread):
    probes = []
    for name in source.sample(("p", "r"), source.choice((1, 2)) if source.random() < share else 0):
        columns = schema[name][1]
        own = tuple((source.choice(columns), source.choice(("<=", "=")), source.choice((None, *columns)),
                     source.randint(-spread, spread)) for _ in range(source.choice((0, 0, 1, 2))))
        link = (source.choice(columns), source.choice(("<=", "=", ">=")), source.choice(cells),
                source.randint(-spread, spread))
        probes.append((source.choice(("some", "none")), name, own, link))
    return tuple(probes)


def lively_settings(source, schema, kind, cells, spread):
    columns = schema["t"][1]
    if kind == "delete":
        return ()
    if kind == "update":
        cells = [cell for cell in cells if cell[0] == "x"]
        columns = [column for column in columns if source.random() < 0.6] or [source.choice(columns)]
    return tuple((column, source.choice([None, *cells, *cells]), source.randint(-spread, spread)) for column in columns)


def lively_database(source, schema, most=3, spread=2, least=0):
    """A database with so many rows in each table."""
    data = []
    for name, columns, _, keys in schema.tables:
        rows = None
        while rows is None:
            numbers = sorted(source.sample(range(most + 2), source.randint(least, most)))
            rows = tuple((number, tuple(source.randint(-spread, spread) for _ in columns)) for number in numbers)
            for key in keys:
                if rows is not None and len({row[1][columns.index(key)] for row in rows}) < len(rows):
                    rows = None
        data.append((name, (rows[-1][0] + 1 if rows else 0) + source.randint(0, 1), rows))
    return Database(schema, tuple(data))
