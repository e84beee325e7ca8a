"""What the texts of schemas, databases and statements have in common."""

from ownwake.errors import InvalidText

DIGITS = "0123456789"
MOST_DIGITS = 40


def lines_of(text):
    """The lines of a text; any value that is no string has a wrong first line."""
    if not isinstance(text, str):
        raise InvalidText(0)
    return [] if text == "" else text.split("\n")


def read_integer(word):
    """The integer that a word tells, or None."""
    digits = word.removeprefix("-")
    if not 1 <= len(digits) <= MOST_DIGITS or not all([digit in DIGITS for digit in digits]):
        return None
    if digits[0] == "0" and word != "0":
        return None
    return int(word)


def read_natural(word):
    """The integer from 0 that a word tells, or None."""
    return None if word.startswith("-") else read_integer(word)
