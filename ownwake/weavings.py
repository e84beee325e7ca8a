"""In which orders hands can step until a run ends, or is disturbed."""

from ownwake.handsearch import DisturbanceSearch
from ownwake.handways import Endings
from ownwake.lives import LiveRun
from ownwake.verdicts import is_disturbed


def weavings(plan, database, *, hands=2, limit=16):
    """Yield, ascending, all weavings of at most so many events by which the run ends."""
    if plan.hands == "one":
        run = LiveRun(plan, database)
        if run.go(limit):
            yield tuple([0 for _ in range(len(run))])
        return
    ways = Endings(plan, database, hands, limit)
    waiting = [(ways.start(), ())] if ways.is_near(ways.start(), limit) else []
    while waiting != []:
        index, weaving = waiting.pop()
        steps = ways.steps(index)
        if steps == []:
            yield weaving
        left = limit - len(weaving) - 1
        waiting.extend([(after, (*weaving, hand)) for hand, after in steps[::-1] if ways.is_near(after, left)])


def find_weaving(plan, database, *, hands=2, limit=24):
    """Any weaving of at most so many events after which the run is disturbed, or None."""
    if plan.hands == "many":
        return DisturbanceSearch(plan, database, hands).found(limit)
    run = LiveRun(plan, database)
    while not is_disturbed(run):
        if run.ended or len(run) >= limit:
            return None
        run.step()
    return tuple([0 for _ in range(len(run))])
