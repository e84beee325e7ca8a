"""Plans: in which order and by which paths a statement's scans run."""

from ownwake.errors import InvalidPlan
from ownwake.planparts import HEAP, all_data, first_wrong

TURNED = {"up": "down", "down": "up"}


class Plan:
    """A plan of a statement; it never changes."""

    def __init__(self, statement, order=None, paths=None, *, hold=0, marks=(), keep=False, hands="one"):
        if order is None:
            order = tuple([alias for alias, _ in statement.references])
        if paths is None:
            paths = tuple([HEAP for _ in statement.references])
        data = (order, paths, hold, marks, keep, hands)
        wrong = first_wrong(statement, data)
        if wrong is not None:
            raise InvalidPlan(wrong)
        self._statement = statement
        self._data = data

    @property
    def statement(self):
        """The statement."""
        return self._statement

    @property
    def order(self):
        """The aliases, by level."""
        return self._data[0]

    @property
    def paths(self):
        """The paths, by level."""
        return self._data[1]

    @property
    def hold(self):
        """The level up to which all is collected first, or 0."""
        return self._data[2]

    @property
    def marks(self):
        """The aliases of the references that skip rows which the run has written or made."""
        return self._data[3]

    @property
    def keep(self):
        """Whether the scans read the database of the beginning."""
        return self._data[4]

    @property
    def hands(self):
        """The word one or many."""
        return self._data[5]

    @property
    def data(self):
        """The six parts."""
        return self._data

    @property
    def lines(self):
        """The explanation."""
        lines = []
        for level, (alias, path) in enumerate(zip(self.order, self.paths), start=1):
            marked = " marked" if alias in self.marks else ""
            lines.append(f"{level}: scan {alias} {' '.join(path)}{marked}")
            if level == self.hold:
                lines.append("hold")
        if self.keep:
            lines.append("keep")
        if self.hands == "many":
            lines.append("many hands")
        return tuple(lines)

    def turned(self, alias):
        """The plan with the index path of this reference in the other direction."""
        paths = [_turned_path(path) if name == alias else path for name, path in zip(self.order, self.paths)]
        return _planned(self._statement, (self.order, tuple(paths), *self._data[2:]))

    def __eq__(self, other):
        return isinstance(other, Plan) and self._statement == other._statement and self._data == other._data


def plans_of(statement, *, hands="one"):
    """Yield all plans of a statement with these hands, ascending."""
    for data in all_data(statement, hands):
        yield _planned(statement, data)


def _planned(statement, data):
    """The plan with this data."""
    order, paths, hold, marks, keep, hands = data
    return Plan(statement, order, paths, hold=hold, marks=marks, keep=keep, hands=hands)


def _turned_path(path):
    """A path in the other direction; a heap has none."""
    return path if path == HEAP else (TURNED[path[0]], path[1])
