"""Checks of what is told of a plan: trees for its suspects, or a database on which it is disturbed."""

from ownwake.clauses import tree_holds
from ownwake.databases import Database
from ownwake.errors import Duplicate, InvalidDatabase
from ownwake.forms import is_natural, is_same, is_tuple
from ownwake.lives import LiveRun
from ownwake.suspects import suspects_of
from ownwake.verdicts import is_disturbed

MOST_EVENTS = 1000


def sound_holds(plan, thing):
    """Whether any value has a tree for each suspect of a plan, in their order."""
    expected = suspects_of(plan)
    if not is_tuple(thing, len(expected)) or not all([is_tuple(part, 2) for part in thing]):
        return False
    if not all([is_same(part[0], suspect) for part, (suspect, _) in zip(thing, expected)]):
        return False
    return all([tree_holds(clauses, part[1]) for part, (_, clauses) in zip(thing, expected)])


def disturbed_holds(plan, thing):
    """Whether any value is the data of a database and a weaving after which a run of a plan on it is disturbed."""
    if not is_tuple(thing, 2):
        return False
    database, weaving = database_of(plan.statement.schema, thing[0]), thing[1]
    if database is None or not isinstance(weaving, tuple) or len(weaving) > MOST_EVENTS:
        return False
    if not all([is_natural(hand) for hand in weaving]):
        return False
    run = LiveRun(plan, database)
    return run.play(weaving) == len(weaving) and is_disturbed(run)


def database_of(schema, thing):
    """The database whose data any value is, with the parts of all tables; or None."""
    try:
        database = Database(schema, thing)
    except (InvalidDatabase, Duplicate):
        return None
    return database if len(database.data) == len(thing) else None
