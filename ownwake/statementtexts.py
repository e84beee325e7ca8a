"""Statements written in lines, and lines read as the parts of statements."""

from ownwake.errors import InvalidText
from ownwake.forms import is_name
from ownwake.statementparts import KINDS, LINK_SIGNS, OWN_SIGNS, SIGNS, WORDS
from ownwake.texts import lines_of, read_integer, read_natural

# The sorts of lines, in the order in which they come behind the first line.
SORTS = {"where": 0, "some": 1, "none": 1, "set": 2, "tell": 3}


def statement_text(parts):
    """The text of a statement with these parts."""
    kind, table, references, conditions, probes, settings, told = parts
    names = ", ".join([f"{alias} {name}" for alias, name in references])
    lines = [f"{kind} {table} from {names}"]
    lines = lines + [f"where {_cell_text(x)} {sign} {_sum_text(y, k)}" for x, sign, y, k in conditions]
    lines = lines + [_probe_text(probe) for probe in probes]
    lines = lines + [f"set {column} to {_sum_text(source, k)}" for column, source, k in settings]
    return "\n".join(lines + [f"tell {_cell_text(cell)}" for cell in told])


def _cell_text(cell):
    """A column reference, or the name of a column alone."""
    return cell if isinstance(cell, str) else f"{cell[0]}.{cell[1]}"


def _sum_text(cell, k):
    """A column reference, or a column, plus an integer; or the integer alone."""
    if cell is None:
        return str(k)
    if k == 0:
        return _cell_text(cell)
    return f"{_cell_text(cell)} + {k}" if k > 0 else f"{_cell_text(cell)} - {-k}"


def _probe_text(probe):
    """The line of a probe."""
    word, table, own, link = probe
    compared = [f"{column} {sign} {_sum_text(cell, k)}" for column, sign, cell, k in (link, *own)]
    return f"{word} {table} where {' and '.join(compared)}"


def read_parts(text):
    """The seven parts that a text tells, whether or not a statement of some schema can have them."""
    lines = lines_of(text)
    first = _read_first(lines[0]) if lines != [] else None
    if first is None:
        raise InvalidText(0)
    found = ([], [], [], [])
    last = 0
    for at, line in enumerate(lines[1:], start=1):
        words = line.split(" ")
        sort = SORTS.get(words[0], -1)
        part = _read_line(words)
        if sort < last or part is None:
            raise InvalidText(at)
        found[sort].append(part)
        last = sort
    conditions, probes, settings, told = [tuple(some) for some in found]
    return (*first, conditions, probes, settings, told)


def _read_first(line):
    """The kind, the table and the references that the first line tells, or None."""
    words = line.split(" ")
    pairs = [tuple(pair.split(" ")) for pair in " ".join(words[3:]).split(", ")]
    if words[0] not in KINDS or not all([len(pair) == 2 for pair in pairs]) or words[2] != "from":
        return None
    if not all([is_name(word) for word in (words[1], *[word for pair in pairs for word in pair])]):
        return None
    return words[0], words[1], tuple(pairs)


def _read_line(words):
    """What the words of one of the other lines tell, or None."""
    if words[0] == "where":
        return _read_comparison(words[1:], True, SIGNS, True)
    if words[0] in WORDS:
        return _read_probe(words)
    if words[0] == "set":
        return _read_setting(words)
    return _read_cell(words[1], True) if len(words) == 2 else None


def _read_setting(words):
    """The setting that the words of a line tell, or None."""
    found = _read_sum(words[3:], True)
    if found is None or not is_name(words[1]) or words[2] != "to":
        return None
    return words[1], found[0], found[1]


def _read_probe(words):
    """The probe that the words of a line tell, or None."""
    if len(words) < 4 or not is_name(words[1]) or words[2] != "where":
        return None
    width = _comparison_width(words[3:])
    link = _read_comparison(words[3:3 + width], False, LINK_SIGNS, True)
    own = _read_own(words[3 + width:])
    if link is None or link[2] is None or own is None:
        return None
    return words[0], words[1], own, link


def _read_own(words):
    """The own conditions of a probe that these words tell, each behind an `and`, or None."""
    found = []
    rest = words
    while rest != []:
        width = 1 + _comparison_width(rest[1:])
        part = _read_comparison(rest[1:width], False, OWN_SIGNS, False)
        if rest[0] != "and" or part is None:
            return None
        found.append(part)
        rest = rest[width:]
    return tuple(found)


def _comparison_width(words):
    """How many of the words belong to the comparison with which they begin."""
    return 5 if words[3:4] in (["+"], ["-"]) else 3


def _read_comparison(words, dotted, signs, dotted_right):
    """The comparison (cell, sign, cell or None, integer) that words tell, or None."""
    cell = _read_cell(words[0], dotted) if words != [] else None
    found = _read_sum(words[2:], dotted_right)
    if cell is None or found is None or words[1] not in signs:
        return None
    return cell, words[1], found[0], found[1]


def _read_sum(words, dotted):
    """The pair of a cell, or None, and an integer that words tell; or None."""
    if len(words) == 1:
        cell, k = _read_cell(words[0], dotted), read_integer(words[0])
        return None if cell is None and k is None else (cell, k or 0)
    if len(words) != 3 or words[1] not in ("+", "-"):
        return None
    cell, k = _read_cell(words[0], dotted), read_natural(words[2])
    if cell is None or k is None or k == 0:
        return None
    return cell, k if words[1] == "+" else -k


def _read_cell(word, dotted):
    """The column reference that a word tells, or the column if it has no dot; or None."""
    if not dotted:
        return word if is_name(word) else None
    alias, _, column = word.partition(".")
    return (alias, column) if is_name(alias) and is_name(column) else None
