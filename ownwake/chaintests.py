"""What a member of a chain has to fulfil, as amounts that are compared.

Each test has an amount for a member and the one behind it, tells at which place of a progression of amounts it fails
first, and how many links the member where it fails still adds, which is granted.
"""

from ownwake.cells import sum_of
from ownwake.planparts import HEAP
from ownwake.progressions import Values, first_above, first_other, first_zero


class ConditionTest:
    """That a member fulfils a condition; the amount is the difference of its sides."""

    def __init__(self, condition):
        self._condition = condition
        self.granted = 0

    def amount(self, cells, _):
        """The amount for the cells of a member."""
        x, _, y, k = self._condition
        return cells[x] - sum_of(cells, y, k)

    def first_failure(self, start, step):
        """The first place of a progression of amounts at which the test fails, or None."""
        sign = self._condition[1]
        if sign == "<=":
            return first_above(start, step)
        return first_other(start, step) if sign == "=" else first_zero(start, step)


class ProbeTest:
    """That a probe, given with its link values, holds for a member; the amount is what these are compared with."""

    def __init__(self, probe, found):
        self._word = probe[0]
        self._link = probe[3]
        self._found = Values(found)
        self.granted = 0

    def amount(self, cells, _):
        """The amount for the cells of a member."""
        _, _, reference, k = self._link
        return cells[reference] + k

    def first_failure(self, start, step):
        """The first place of a progression of amounts at which the test fails, or None."""
        if self._found.least() is None:
            return 0 if self._word == "some" else None
        if self._link[1] != "=":
            return self._first_failure_beyond(start, step)
        return self._found.first_missed(start, step) if self._word == "some" else self._found.first_met(start, step)

    def _first_failure_beyond(self, start, step):
        """The same where some row answers if the one with the nearest value does."""
        turn, nearest = (1, self._found.least()) if self._link[1] == "<=" else (-1, self._found.most())
        # By so much the amount is beyond the nearest value; from 0 on the row answers.
        excess = turn * (start - nearest)
        return first_above(-excess, -turn * step) if self._word == "some" else first_above(excess + 1, turn * step)


class MeetingTest:
    """That the scan of a plan meets the member behind another one; the amount is greater than 0 if it does not."""

    def __init__(self, plan):
        statement, path = plan.statement, plan.paths[0]
        alias, name = statement.references[0]
        is_insert = statement.kind == "insert"
        self._is_met = name == statement.table and (is_insert or path != HEAP)
        self._cell = (alias, path[1]) if self._is_met and path != HEAP else None
        self._turn = -1 if path[0] == "down" else 1
        # Between equal values the number decides: a new row has a greater one, a changed row the same.
        self._lack = 0 if is_insert and path[0] == "up" else 1
        self.granted = 1

    def amount(self, cells, following):
        """The amount for the cells of a member and of the one behind it."""
        if self._cell is None:
            return 0 if self._is_met else 1
        return self._turn * (cells[self._cell] - following[self._cell]) + self._lack

    def first_failure(self, start, step):
        """The first place of a progression of amounts at which the test fails, or None."""
        return first_above(start, step)
