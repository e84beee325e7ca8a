"""What the parts of a plan have to be, and all choices of them."""

from ownwake.forms import is_natural

HEAP = ("heap",)
DIRECTIONS = ("up", "down")
HANDS = ("one", "many")


def first_wrong(statement, data):
    """The name of the first of the six parts, of any values, that is not right; or None."""
    order, paths, hold, marks, keep, hands = data
    levels = len(statement.references)
    if not _is_order(statement, order):
        return "order"
    if not _are_paths(statement, order, paths):
        return "paths"
    if not is_natural(hold) or hold > levels:
        return "hold"
    if marks not in _mark_choices(statement):
        return "marks"
    if not isinstance(keep, bool) or keep and (hold > 0 or marks != ()):
        return "keep"
    if hands not in HANDS or hands == "many" and (hold > 0 or keep):
        return "hands"
    return None


def _is_order(statement, thing):
    """Whether any value is a tuple of all aliases, each once."""
    aliases = [alias for alias, _ in statement.references]
    return isinstance(thing, tuple) and len(thing) == len(aliases) and all([alias in thing for alias in aliases])


def _are_paths(statement, order, thing):
    """Whether any value is a tuple of a path for each level of this order."""
    if not isinstance(thing, tuple) or len(thing) != len(order):
        return False
    return all([path in _paths_for(statement, alias) for alias, path in zip(order, thing)])


def _paths_for(statement, alias):
    """The paths by which a plan can read this reference."""
    indexes = statement.schema[dict(statement.references)[alias]][2]
    compared = [cell for x, sign, y, _ in statement.conditions if sign != "!=" for cell in (x, y)]
    columns = [column for column in indexes if (alias, column) in compared]
    return [HEAP] + [(direction, column) for direction in DIRECTIONS for column in columns]


def _mark_choices(statement):
    """All tuples of marks that a plan can have."""
    choices = [()]
    if statement.kind == "delete":
        return choices
    for alias in sorted([alias for alias, table in statement.references if table == statement.table]):
        choices = choices + [(*marks, alias) for marks in choices]
    return choices


def all_data(statement, hands):
    """The data of all plans with these hands, ascending."""
    aliases = [alias for alias, _ in statement.references]
    return sorted([
        (order, paths, hold, marks, keep, hands)
        for order in sorted(set([tuple(aliases), tuple(aliases[::-1])]))
        for paths in _path_choices(statement, order)
        for hold, marks, keep in _mode_choices(statement, hands)])


def _path_choices(statement, order):
    """All tuples of paths for the levels of an order."""
    choices = [()]
    for alias in order:
        choices = [(*paths, path) for paths in choices for path in _paths_for(statement, alias)]
    return choices


def _mode_choices(statement, hands):
    """All triples of hold, marks and keep that go with these hands."""
    if hands == "many":
        return [(0, marks, False) for marks in _mark_choices(statement)]
    holds = range(len(statement.references) + 1)
    held = [(hold, marks, False) for hold in holds for marks in _mark_choices(statement)]
    return [*held, (0, (), True)]
