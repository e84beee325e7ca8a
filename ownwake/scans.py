"""Tables that are read while they are written."""

from ownwake.errors import NoRow


class LiveTable:
    """Rows that change, and scans that go on among them; paths name columns by their indexes."""

    def __init__(self, rows=(), following=0):
        self._rows = {number: values for number, values in rows}
        self._following = following

    @property
    def rows(self):
        """The rows, ascending by number, as they are now."""
        return tuple([(number, self._rows[number]) for number in sorted(self._rows)])

    @property
    def following(self):
        """The number that the next new row gets."""
        return self._following

    def put(self, *values):
        """Make a new row, and return its number."""
        number = self._following
        self._rows[number] = values
        self._following = number + 1
        return number

    def change(self, number, values):
        """Give a row other values."""
        if number not in self:
            raise NoRow("", number)
        self._rows[number] = tuple(values)

    def drop(self, number):
        """Take a row away."""
        if number not in self:
            raise NoRow("", number)
        del self._rows[number]

    def values_of(self, number):
        """The values of a row that is there, as it is now."""
        return self._rows[number]

    def next_row(self, path, place=None, *, least=None, most=None):
        """The row that comes first behind a place, or of all rows without one; None if there is none."""
        places = [place_of(path, row) for row in self._rows.items() if _is_within(path, row, least, most)]
        behind = [found for found in places if place is None or comes_first(path, place, found)]
        if behind == []:
            return None
        number = (max(behind) if path[0] == "down" else min(behind))[-1]
        return number, self._rows[number]

    def scan(self, path, *, least=None, most=None):
        """Yield the next row again and again, each as the table is when it is asked for."""
        row = self.next_row(path, least=least, most=most)
        while row is not None:
            place = place_of(path, row)
            yield row
            row = self.next_row(path, place, least=least, most=most)

    def __contains__(self, x):
        return isinstance(x, int) and not isinstance(x, bool) and x in self._rows

    def __len__(self):
        return len(self._rows)


def is_ahead(path, one, other):
    """Whether the place of one row, given as its number and its value, is ahead of that of another one."""
    if path[0] == "heap":
        return one[0] < other[0]
    return comes_first(path, (one[1], one[0]), (other[1], other[0]))


def place_of(path, row):
    """The place of a row for a path whose column is given by its index."""
    return (row[0],) if path[0] == "heap" else (row[1][path[1]], row[0])


def comes_first(path, place, other):
    """Whether a place is ahead of another one."""
    return place > other if path[0] == "down" else place < other


def _is_within(path, row, least, most):
    """Whether a row's value in the path's column is within the bounds."""
    if path[0] == "heap":
        return True
    value = row[1][path[1]]
    return (least is None or least <= value) and (most is None or value <= most)
