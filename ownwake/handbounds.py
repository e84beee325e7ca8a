"""How many events a run by many hands surely makes before it ends.

Rows that no write can take out of the way of a scan, or let fail its tests, have to be fetched, and their matches
raised; so have the new rows that are made behind the place of the scan.
"""

from ownwake.handfloors import MovingRows
from ownwake.planparts import HEAP


class LeastEvents:
    """A count of what has yet to come in a run, for its states."""

    def __init__(self, plan, moves, limit):
        self._moves = moves
        self._last = len(plan.order)
        self._stays = [_stays(plan, level) for level in range(len(plan.order))]
        self._sure = [_is_sure(plan, level) for level in range(len(plan.order))]
        grows = [_is_open(plan, level) and plan.statement.kind == "insert" for level in range(len(plan.order))]
        # By an index, the shared scan may be beyond a new row when it is made.
        self._grows = [grows[0] and plan.paths[0] == HEAP, *grows[1:]]
        self._limit = limit
        self._moving = MovingRows(plan, moves, self._stays, self._sure, limit)

    def least(self, state):
        """A number of events without which the run does not end; it is not followed beyond the limit."""
        hands, limit = state[3], self._limit
        raised = [due for _, _, due in hands if due != ()]
        total = len(raised)
        for hand in hands:
            if hand[0] != () and self._stays[1]:
                total += self._inner(state, hand, limit - total, raised)
        unsure = self._unsure_rows(state)
        if self._stays[0]:
            total += self._outer(state, limit - total, raised)
        # Each of these rows has to be fetched, or to be written before that.
        targets = [self._moves.target(copies) for copies in raised]
        left = [number for number in unsure if number not in targets]
        return total + max(len(left), self._moving.least(state, targets))

    def _inner(self, state, hand, limit, raised):
        """How many events of level 2 a hand makes with its outer row; the matches that it raises are noted."""
        outer, place, due = hand
        if due != () and self._grows[1]:
            state = self._moves.after_raise(state, due)
        total = 0
        found = self._moves.next_row(state, (outer,), place)
        while found is not None and total <= limit:
            place, copies = found[0], (outer, found[1])
            total += 1
            if self._sure[1] and self._moves.passes(copies):
                total += 1
                raised.append(copies)
                if self._grows[1]:
                    state = self._moves.after_raise(state, copies)
            found = self._moves.next_row(state, (outer,), place)
        return total

    def _outer(self, state, limit, raised):
        """How many events the rows ahead of the shared scan bring; the matches that come of them are noted."""
        total, at = 0, 0
        grown, place = state, state[2]
        while total <= limit:
            while self._grows[0] and at < len(raised):
                grown = self._moves.after_raise(grown, raised[at])
                at += 1
            found = self._moves.next_row(grown, (), place)
            if found is None:
                break
            place, row = found
            total += 1
            if not self._sure[0] or not self._moves.passes((row,)):
                continue
            if self._last == 1:
                total += 1
                raised.append((row,))
            elif self._stays[1]:
                total += self._inner(state, (row, (), ()), limit - total, raised)
        return total

    def _unsure_rows(self, state):
        """The numbers of the rows that are ahead of some scan, but can be taken out of its way."""
        scans = [] if self._stays[0] else [((), state[2])]
        if self._last == 2 and not self._stays[1]:
            scans = scans + [((outer,), place) for outer, place, _ in state[3] if outer != ()]
        return sorted({row[0] for outer, place in scans for _, row in self._moves.rows_ahead(state, outer, place)})


def _is_read(plan, level):
    """Whether a level, counted from 0, reads the written table."""
    return dict(plan.statement.references)[plan.order[level]] == plan.statement.table


def _is_open(plan, level):
    """Whether the scan of a level returns rows that the run has written or made."""
    return _is_read(plan, level) and plan.order[level] not in plan.marks


def _stays(plan, level):
    """Whether no write takes a row out of the way of a level's scan."""
    kind = plan.statement.kind
    if not _is_read(plan, level) or kind == "insert":
        return True
    written = [column for column, _, _ in plan.statement.settings]
    return kind == "update" and _is_open(plan, level) and not any([at in written for at in plan.paths[level][1:]])


def _is_sure(plan, level):
    """Whether, besides, no write changes what is tested of a level's rows."""
    statement, alias = plan.statement, plan.order[level]
    tested = [cell for x, _, y, _ in statement.conditions for cell in (x, y)]
    tested = tested + [link[2] for _, _, _, link in statement.probes]
    written = [(alias, column) for column, _, _ in statement.settings if _is_read(plan, level)]
    return _stays(plan, level) and (statement.kind == "insert" or not any([cell in written for cell in tested]))
