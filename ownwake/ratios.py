"""Exact fractions."""

from math import gcd


class Ratio:
    """A fraction in lowest terms; it never changes."""

    def __init__(self, top, bottom=1):
        shared = gcd(top, bottom) if bottom > 0 else -gcd(top, bottom)
        self._top = top // shared
        self._bottom = bottom // shared

    @property
    def top(self):
        """The upper integer, with the sign of the fraction."""
        return self._top

    @property
    def bottom(self):
        """The lower integer, from 1 on."""
        return self._bottom

    def is_less(self, other):
        """Whether this fraction is less than another one."""
        return self._top * other.bottom < other.top * self._bottom

    def __add__(self, other):
        if not isinstance(other, Ratio):
            return NotImplemented
        return Ratio(self._top * other.bottom + other.top * self._bottom, self._bottom * other.bottom)

    def __sub__(self, other):
        if not isinstance(other, Ratio):
            return NotImplemented
        return Ratio(self._top * other.bottom - other.top * self._bottom, self._bottom * other.bottom)

    def __mul__(self, other):
        if not isinstance(other, Ratio):
            return NotImplemented
        return Ratio(self._top * other.top, self._bottom * other.bottom)

    def __eq__(self, other):
        return isinstance(other, Ratio) and self._top == other._top and self._bottom == other._bottom

    def __bool__(self):
        return bool(self._top != 0)

    def __str__(self):
        if self._bottom == 1:
            return str(self._top)
        return f"{self._top}/{self._bottom}"
