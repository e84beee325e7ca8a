"""Numbers that change by a fixed amount each time: when they first are what they should not be.

A progression is start, start + step, start + 2 * step and so on; its places are counted from 0.
"""


def first_above(start, step):
    """The first place at which a progression is greater than 0, or None."""
    if start > 0:
        return 0
    return -start // step + 1 if step > 0 else None


def first_zero(start, step):
    """The first place at which a progression is 0, or None."""
    if start == 0:
        return 0
    if step == 0 or -start % step != 0 or -start // step < 0:
        return None
    return -start // step


def first_other(start, step):
    """The first place at which a progression is not 0, or None."""
    if start != 0:
        return 0
    return None if step == 0 else 1


class Values:
    """Some integers, and when a progression first meets one of them, or first misses all of them."""

    def __init__(self, values):
        self._values = sorted(set(values))
        self._known = {value: True for value in self._values}
        # By step: how long progressions from each value stay among the values; the values by their remainders.
        self._runs = {}
        self._rests = {}

    def least(self):
        """The least value, or None."""
        return self._values[0] if self._values != [] else None

    def most(self):
        """The greatest value, or None."""
        return self._values[-1] if self._values != [] else None

    def first_missed(self, start, step):
        """The first place at which a progression is none of the values, or None."""
        if step == 0:
            return None if start in self._known else 0
        if step not in self._runs:
            self._runs[step] = self._runs_by(step)
        return self._runs[step].get(start, 0)

    def _runs_by(self, step):
        """For each value at how many places the progression from it is one of the values."""
        runs = {}
        for value in self._values[::-1] if step > 0 else self._values:
            runs[value] = runs.get(value + step, 0) + 1
        return runs

    def first_met(self, start, step):
        """The first place at which a progression is one of the values, or None."""
        if step == 0:
            return 0 if start in self._known else None
        if step not in self._rests:
            self._rests[step] = self._rests_by(step)
        turn = 1 if step > 0 else -1
        value = _first_from(self._rests[step].get(start % step, []), turn * start, turn)
        return None if value is None else (value - start) // step

    def _rests_by(self, step):
        """The values by their remainders, in the direction of a progression."""
        rests = {}
        for value in self._values if step > 0 else self._values[::-1]:
            rests.setdefault(value % step, []).append(value)
        return rests


def _first_from(values, limit, turn):
    """The first of some values, ascending when they are multiplied by the turn, that then is at least a limit."""
    low, high = 0, len(values)
    while low < high:
        middle = (low + high) // 2
        if turn * values[middle] < limit:
            low = middle + 1
        else:
            high = middle
    return values[low] if low < len(values) else None
