"""Which match comes first, as formulas over the places of its rows."""

from ownwake.formulas import FAILS, HOLDS, all_of, any_of, compare
from ownwake.planparts import HEAP


def writer_is_ahead(scene, writer, level):
    """The formula that a writer is ahead of the match that disturbs at a level."""
    first = 1
    if level == 2 and scene.plan.hands == "many":
        row = scene.disturber.own_rows[0]
        if writer.own_rows[0] != row or scene.is_moved(1):
            # The hands have different outer rows, so their turns can come in any order.
            return HOLDS
        first = 2
    formula = FAILS
    for here in range(level, first - 1, -1):
        formula = _writer_first(scene, writer, here, formula)
    return formula


def _writer_first(scene, writer, level, tied):
    """The formula that a writer's place is the lesser one at a level, where `tied` decides for the same place."""
    path = scene.plan.paths[level - 1]
    if scene.disturber.own_rows[level - 1] is not None:
        return place_is_ahead(scene, level, writer, scene.disturber, tied)
    # A new row has a greater number than all others.
    if path == HEAP:
        return HOLDS
    one, other = _value(scene, level, writer), _value(scene, level, scene.disturber)
    return compare(one, "<=", other) if path[0] == "up" else compare(one, ">", other)


def is_not_ahead(scene, other, level):
    """The formula that a match is not ahead of the one that disturbs at a level."""
    formula = HOLDS
    for here in range(level, 0, -1):
        formula = place_is_ahead(scene, here, scene.disturber, other, formula)
    return formula


def place_is_ahead(scene, level, one, other, tied):
    """The formula that a row of one match is ahead of that of another one; `tied` decides for the same place."""
    path = scene.plan.paths[level - 1]
    sign = ">" if path[0] == "down" else "<"
    row, against = one.own_rows[level - 1], other.own_rows[level - 1]
    if row != against:
        tied = compare(scene.number_term(level, row), sign, scene.number_term(level, against))
    if path == HEAP:
        return tied
    value, limit = _value(scene, level, one), _value(scene, level, other)
    return any_of([compare(value, sign, limit), all_of([compare(value, "=", limit), tied])])


def _value(scene, level, sight):
    """The term of a match in the path's column of a level."""
    return sight.terms[scene.plan.order[level - 1], scene.plan.paths[level - 1][1]]
