"""Tests of the simple values of which everything else is built."""

LETTERS = "abcdefghijklmnopqrstuvwxyz"


def is_integer(thing):
    """Whether any value is an integer; True and False are none."""
    return isinstance(thing, int) and not isinstance(thing, bool)


def is_natural(thing):
    """Whether any value is an integer from 0."""
    return is_integer(thing) and thing >= 0


def is_name(thing):
    """Whether any value is a string of one to eight letters a to z."""
    return isinstance(thing, str) and 1 <= len(thing) <= 8 and all([letter in LETTERS for letter in thing])


def is_tuple(thing, size):
    """Whether any value is a tuple of so many parts."""
    return isinstance(thing, tuple) and len(thing) == size


def is_ascending(things):
    """Whether things that can be compared are sorted, without duplicates."""
    return all([one < other for one, other in zip(things, things[1:])])


def is_same(thing, expected):
    """Whether any value is built as a value of tuples, strings, integers and bools; True and False are no integers."""
    if isinstance(expected, tuple):
        return is_tuple(thing, len(expected)) and all([is_same(one, other) for one, other in zip(thing, expected)])
    return thing == expected and isinstance(thing, bool) == isinstance(expected, bool)
