"""Whether a plan can ever be disturbed."""

from ownwake.clauses import settle
from ownwake.disturbing import Staging
from ownwake.exhibits import exhibit, numbers_of, worth_of
from ownwake.scenes import OTHER, WRITTEN, Scene
from ownwake.suspects import suspects_of


def decide(plan):
    """Trees for all suspects of a plan, or a database and a weaving by which a run of it is disturbed."""
    trees = []
    for suspect, clauses in suspects_of(plan):
        word, found = settle(clauses)
        if word == "solution":
            data, weaving = _disturbance(Scene(plan, suspect), clauses, found)
            return "disturbed", data, weaving
        trees.append((suspect, found))
    return "sound", tuple(trees)


def _disturbance(scene, clauses, pairs):
    """The data and the weaving that a solution of the clauses of a suspect tells."""
    counts = {role: scene.row_count(role) for role in (WRITTEN, OTHER)}
    database = exhibit(scene.plan, counts, clauses, pairs)
    worth = worth_of(pairs)
    numbers = {role: numbers_of(role, counts[role], worth) for role in counts}
    writers = {level: _numbered(scene, scene.writers[level].own_rows, numbers) for level in scene.levels}
    own = _numbered(scene, scene.disturber.own_rows, numbers)
    return database.data, Staging(scene, database).weaving(writers, own)


def _numbered(scene, rows, numbers):
    """The numbers of rows by level; None for new ones."""
    return [None if row is None else numbers[role][row] for role, row in zip(scene.roles, rows)]
