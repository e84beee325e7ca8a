"""The clauses of a suspect: what has to hold for its match to disturb a run."""

from ownwake.atoms import NUMBER
from ownwake.formulas import FAILS, OPPOSITE, all_of, any_of, compare, plus
from ownwake.orders import is_not_ahead, place_is_ahead, writer_is_ahead
from ownwake.scenes import WRITTEN, named_roles, target_level

PROBE_ROLES = ("first", "second")


def formulas_of(scene):
    """All that has to hold, as formulas."""
    sights = [scene.disturber, *[scene.writers[level] for level in scene.levels]]
    formulas = [condition_holds(some, sight) for sight in sights for some in scene.plan.statement.conditions]
    formulas = formulas + [formula for at, sight in zip((0, *scene.levels), sights)
                           for formula in answers(scene.plan.statement, sight, (at,))]
    if scene.plan.statement.kind == "update":
        formulas = formulas + [_is_written(scene, level) for level in scene.levels]
    formulas = formulas + [writer_is_ahead(scene, scene.writers[level], level) for level in scene.levels]
    return formulas + _rows_unlike(scene) + _rows_unchanged(scene)


def condition_holds(condition, sight):
    """The formula that a condition holds for a match."""
    x, sign, y, k = condition
    return compare(sight.terms[x], sign, _sum_of(sight, y, k))


def _condition_fails(condition, sight):
    """The formula that a condition fails for a match."""
    x, sign, y, k = condition
    return compare(sight.terms[x], OPPOSITE[sign], _sum_of(sight, y, k))


def _sum_of(sight, cell, k):
    """The term of a cell plus an integer, or of the integer alone."""
    return ((), k) if cell is None else plus(sight.terms[cell], k)


def answers(statement, sight, row):
    """The formulas that a row of its own answers each of the probes with `some` for a match."""
    return [formula for role, probe in zip(PROBE_ROLES, statement.probes) if probe[0] == "some"
            for formula in _answer(probe, sight, role, row)]


def _answer(probe, sight, role, row):
    """The formulas that a row answers a probe for a match."""
    _, _, own, (column, sign, reference, k) = probe
    found = [compare(((role, row, one), 0), op, ((), limit) if other is None else ((role, row, other), limit))
             for one, op, other, limit in own]
    return [*found, compare(((role, row, column), 0), sign, _sum_of(sight, reference, k))]


def _link_fails(probe, sight, role, row):
    """The formula that a row does not have a probe's link to a match."""
    column, sign, reference, k = probe[3]
    return compare(((role, row, column), 0), OPPOSITE[sign], _sum_of(sight, reference, k))


def _marked_columns(scene, level):
    """The columns of a level that count as marked."""
    statement, alias = scene.plan.statement, scene.plan.order[level - 1]
    read = statement.reads(alias)
    return [column for column, _, _ in statement.settings if alias in scene.plan.marks or column in read]


def _is_written(scene, level):
    """The formula that a marked column of the row at a level has another value by its setting."""
    row = scene.disturber.own_rows[level - 1]
    new = scene.changed(row)
    return any_of([compare(new[column], "!=", scene.term(WRITTEN, row, column))
                   for column in _marked_columns(scene, level)])


def _rows_unlike(scene):
    """The formulas that rows of a table have different numbers, and different values in key columns."""
    schema, formulas = scene.plan.statement.schema, []
    for role, name in named_roles(scene.plan):
        pairs = [(i, j) for j in range(scene.row_count(role)) for i in range(j)]
        formulas = formulas + [compare(scene.term(role, i, column), "!=", scene.term(role, j, column))
                               for column in (NUMBER, *schema[name][3]) for i, j in pairs]
    return formulas


def _rows_unchanged(scene):
    """The formulas that the other row of a match with one changed row has not been changed before its turn."""
    plan = scene.plan
    if scene.kind != "raised" or len(plan.order) != 2 or len(scene.levels) != 1:
        return []
    level = 3 - scene.levels[0]
    is_open = scene.roles[level - 1] == WRITTEN and level > plan.hold and not plan.keep
    if not is_open or plan.hands == "many" and level == 1:
        return []
    row = scene.disturber.own_rows[level - 1]
    partners = range(scene.row_count(scene.roles[2 - target_level(plan)]))
    sights = [scene.sight((row, some) if target_level(plan) == 1 else (some, row)) for some in partners]
    if plan.hands == "many":
        sights = [sight for sight in sights if sight.own_rows[0] == scene.writers[1].own_rows[0]]
    return [_does_not_change(scene, sight, level, row) for sight in sights]


def _does_not_change(scene, sight, level, row):
    """The formula that a match does not change its target, which is a row of a level, before its turn there."""
    statement = scene.plan.statement
    new = scene.changed(row)
    keeps = all_of([compare(new[column], "=", scene.term(WRITTEN, row, column))
                    for column in _marked_columns(scene, level)])
    fails = [_condition_fails(some, sight) for some in statement.conditions]
    fails = fails + [_probe_fails(scene, at, sight, level) for at in range(len(statement.probes))]
    return any_of([*fails, _is_too_late(scene, sight, level), keeps])


def _is_too_late(scene, sight, level):
    """The formula that a match comes too late to change a row before its turn at a level."""
    if scene.plan.hands == "one":
        return is_not_ahead(scene, sight, level)
    writer = scene.writers[1]
    if writer.own_rows[1] == sight.own_rows[1]:
        return FAILS
    return place_is_ahead(scene, 2, writer, sight, FAILS)


def _probe_fails(scene, at, sight, level):
    """The formula that a probe fails for a match that would change a row of this level."""
    probe, role = scene.plan.statement.probes[at], PROBE_ROLES[at]
    if probe[0] == "some":
        return all_of([_link_fails(probe, sight, role, (some,)) for some in (0, *scene.levels)])
    row = (level, *sight.own_rows)
    others = [scene.disturber, *[scene.writers[some] for some in scene.levels]]
    return all_of([*_answer(probe, sight, role, row), *[_link_fails(probe, other, role, row) for other in others]])
