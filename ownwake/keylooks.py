"""Updates of one reference whose keys are looked at row by row."""

from ownwake.atoms import NUMBER
from ownwake.clauses import settle, tree_holds
from ownwake.databases import Database
from ownwake.deciding import decide
from ownwake.errors import Duplicate, NoChain, Unsound
from ownwake.exhibits import exhibit
from ownwake.forms import is_tuple
from ownwake.formulas import FAILS, as_clauses, compare
from ownwake.grounds import answers, condition_holds
from ownwake.lives import LiveRun
from ownwake.meanings import meaning
from ownwake.orders import place_is_ahead
from ownwake.scenes import OTHER, WRITTEN, Scene
from ownwake.soundchecks import database_of


def run_by_rows(plan, database):
    """What comes of a plan that looks at the new values of each row when it writes them."""
    if not _is_row_by_row(plan):
        raise NoChain(plan.data)
    run = LiveRun(plan, database)
    while not run.ended:
        run.step()
        # A write changes no other row, so its values can be looked at behind it as well as before it.
        written = run.writes[-1][2] if run.events[-1][0] == "raise" else None
        refusal = None if written is None else _refusal(plan.statement, run.data, written)
        if refusal is not None:
            return "refused", written, refusal[0], refusal[1]
    return "done", tuple(sorted(run.raised)), Database(database.schema, run.data)


def _is_row_by_row(plan):
    """Whether a plan is one of an update of one reference with one hand."""
    return plan.statement.kind == "update" and len(plan.order) == 1 and plan.hands == "one"


def _refusal(statement, data, number):
    """The first key column, and its value, that a row shares with another one of the written table; or None."""
    _, columns, _, keyed = statement.schema[statement.table]
    rows = [part[2] for part in data if part[0] == statement.table][0]
    own = [values for some, values in rows if some == number][0]
    for at, column in enumerate(columns):
        if column in keyed and [some for some, values in rows if some != number and values[at] == own[at]] != []:
            return column, own[at]
    return None


def key_clauses(plan):
    """By the name of each set column that is a key the clauses for a refusal that the meaning does not share."""
    if not _is_row_by_row(plan):
        raise NoChain(plan.data)
    statement = plan.statement
    keyed = statement.schema[statement.table][3]
    return tuple([(("key", column), as_clauses(_formulas(plan, column)))
                  for column, _, _ in statement.settings if column in keyed])


def _formulas(plan, column):
    """All that has to hold for a first row that gets the value which a second one has yet in a key column."""
    statement = plan.statement
    # A scene without writers tells the terms of rows as they were, and as they are set.
    scene = Scene(plan, ("raised", (), (0,)))
    one, other = scene.sight((0,)), scene.sight((1,))
    formulas = [condition_holds(some, sight) for sight in (one, other) for some in statement.conditions]
    formulas = formulas + answers(statement, one, (0,)) + answers(statement, other, (1,))
    formulas.append(place_is_ahead(scene, 1, one, other, FAILS))
    formulas.append(compare(scene.changed(0)[column], "=", scene.term(WRITTEN, 1, column)))
    for some in (NUMBER, *statement.schema[statement.table][3]):
        old = [scene.term(WRITTEN, row, some) for row in (0, 1)]
        new = [scene.changed(row).get(some, term) for row, term in enumerate(old)]
        formulas = formulas + [compare(old[0], "!=", old[1]), compare(new[0], "!=", new[1])]
    return formulas


def key_look(plan):
    """The data of a database which only the run row by row refuses, or trees."""
    found = key_clauses(plan)
    if decide(plan)[0] != "sound":
        raise Unsound(plan.data)
    trees = []
    for name, clauses in found:
        word, result = settle(clauses)
        if word == "solution":
            return "refuses", exhibit(plan, {WRITTEN: 2, OTHER: 0}, clauses, result).data
        trees.append((name, result))
    return "never", tuple(trees)


def refuses_holds(plan, thing):
    """Whether any value is the data of a database of two rows which only the run row by row refuses."""
    if not _can_be_looked_at(plan):
        return False
    database = database_of(plan.statement.schema, thing)
    if database is None or len(database[plan.statement.table]) != 2:
        return False
    try:
        meaning(plan.statement, database)
    except Duplicate:
        return False
    return run_by_rows(plan, database)[0] == "refused"


def never_holds(plan, thing):
    """Whether any value has a tree for each key column that is set."""
    if not _can_be_looked_at(plan):
        return False
    expected = key_clauses(plan)
    if not is_tuple(thing, len(expected)) or not all([is_tuple(part, 2) for part in thing]):
        return False
    if not all([part[0] == name for part, (name, _) in zip(thing, expected)]):
        return False
    return all([tree_holds(clauses, part[1]) for part, (_, clauses) in zip(thing, expected)])


def _can_be_looked_at(plan):
    """Whether keys are looked at for a plan."""
    return _is_row_by_row(plan) and decide(plan)[0] == "sound"
