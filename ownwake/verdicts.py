"""What a run is found to be: disturbed by its own writes, and how, or not."""

from ownwake.meanings import matches
from ownwake.rights import Rights


def verdict(run):
    """The verdict of a run as it is now."""
    statement, database = run.plan.statement, run.database
    rights = Rights(run.plan, database)
    seen = {}
    for numbers, copies, _ in run.writes:
        word = rights.fault(copies, numbers in seen)
        if word is not None:
            return word, numbers, _writer(run, numbers)
        seen[numbers] = True
    if not run.ended:
        return ("open",)
    for numbers in matches(statement, database):
        if numbers not in seen:
            return "missing", numbers, _writer(run, numbers)
    return ("plain",)


def is_disturbed(run):
    """Whether a run is disturbed."""
    return verdict(run)[0] not in ("plain", "open")


def _writer(run, numbers):
    """The first raised match that wrote, removed or made one of the rows with these numbers."""
    statement = run.plan.statement
    rows = [number for (_, name), number in zip(statement.references, numbers) if name == statement.table]
    found = [some for some, _, row in run.writes if row in rows]
    return found[0]
