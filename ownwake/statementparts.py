"""What the parts of a statement have to be."""

from ownwake.forms import is_ascending, is_integer, is_name, is_tuple

KINDS = ("update", "delete", "insert")
WORDS = ("some", "none")
SIGNS = ("<=", "=", "!=")
OWN_SIGNS = ("<=", "=")
LINK_SIGNS = ("<=", "=", ">=")
MOST_REFERENCES = 2
MOST_CONDITIONS = 5
MOST_PROBES = 2
MOST_OWN = 2


def first_wrong(schema, parts):
    """The name of the first of the seven parts, of any values, that is not right; or None."""
    kind, table, references, conditions, probes, settings, told = parts
    if kind not in KINDS:
        return "kind"
    if table not in schema:
        return "table"
    if not _are_references(schema, kind, table, references):
        return "references"
    cells = cells_of(schema, references)
    if not _are_few(conditions, MOST_CONDITIONS) or not all([_is_condition(cells, some) for some in conditions]):
        return "conditions"
    if not _are_probes(schema, cells, _busy_tables(table, references), probes):
        return "probes"
    if not _are_settings(schema[table], kind, references, cells, settings):
        return "settings"
    if not isinstance(told, tuple) or not all([some in cells for some in told]):
        return "told"
    return None


def cells_of(schema, references):
    """All column references that right references allow."""
    return tuple([(alias, column) for alias, table in references for column in schema[table][1]])


def _busy_tables(table, references):
    """The tables that no probe may ask: the written one and those of the references."""
    return (table, *[name for _, name in references])


def _are_few(thing, most):
    """Whether any value is a tuple of at most so many parts."""
    return isinstance(thing, tuple) and len(thing) <= most


def _are_references(schema, kind, table, thing):
    """Whether any value is a tuple of one or two references, the first one fitting the kind."""
    if not _are_few(thing, MOST_REFERENCES) or thing == ():
        return False
    if not all([is_tuple(some, 2) and is_name(some[0]) and some[1] in schema for some in thing]):
        return False
    if len(set([alias for alias, _ in thing])) < len(thing):
        return False
    return kind == "insert" or thing[0][1] == table


def _is_condition(cells, thing):
    """Whether any value is a condition over these column references."""
    if not is_tuple(thing, 4):
        return False
    x, sign, y, k = thing
    return x in cells and sign in SIGNS and (y is None or y in cells) and is_integer(k)


def _are_probes(schema, cells, busy, thing):
    """Whether any value is a tuple of at most two probes of different tables."""
    if not _are_few(thing, MOST_PROBES) or not all([_is_probe(schema, cells, busy, probe) for probe in thing]):
        return False
    return len(set([probe[1] for probe in thing])) == len(thing)


def _is_probe(schema, cells, busy, thing):
    """Whether any value is a probe of a table that is not busy."""
    if not is_tuple(thing, 4):
        return False
    word, table, own, link = thing
    if word not in WORDS or table not in schema or table in busy or schema[table][3] != ():
        return False
    columns = schema[table][1]
    if not _are_few(own, MOST_OWN) or not all([_is_own(columns, some) for some in own]):
        return False
    return _is_link(columns, cells, link)


def _is_own(columns, thing):
    """Whether any value is an own condition of a probe of a table with these columns."""
    if not is_tuple(thing, 4):
        return False
    column, sign, other, k = thing
    return column in columns and sign in OWN_SIGNS and (other is None or other in columns) and is_integer(k)


def _is_link(columns, cells, thing):
    """Whether any value is a link of a probe of a table with these columns."""
    if not is_tuple(thing, 4):
        return False
    column, sign, reference, k = thing
    return column in columns and sign in LINK_SIGNS and reference in cells and is_integer(k)


def _are_settings(table, kind, references, cells, thing):
    """Whether any value is a tuple of settings as this kind of statement has them."""
    if not isinstance(thing, tuple):
        return False
    if kind == "delete":
        return thing == ()
    sources = cells if kind == "insert" else [cell for cell in cells if cell[0] == references[0][0]]
    if not all([_is_setting(table[1], sources, some) for some in thing]):
        return False
    columns = tuple([column for column, _, _ in thing])
    if kind == "insert":
        return columns == table[1]
    return columns != () and is_ascending(columns)


def _is_setting(columns, sources, thing):
    """Whether any value sets one of these columns from one of these sources."""
    if not is_tuple(thing, 3):
        return False
    column, source, k = thing
    return column in columns and (source is None or source in sources) and is_integer(k)
