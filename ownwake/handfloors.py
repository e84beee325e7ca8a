"""How many events a run by many hands makes at least before it ends, while an update moves its rows.

A row goes from version to version, each of which follows from another one by the settings. Whatever the hands do, it
never has one before the least that its values, and the copies of it in the hands, still allow. So a scan that is not
beyond any version that may come has to fetch on.
"""


class RowVersions:
    """The versions of a row: its values as they stood, and what the settings make of them, again and again."""

    def __init__(self, statement, values, most):
        columns = statement.schema[statement.table][1]
        self._versions = []
        self._indexes = {}
        while values not in self._indexes and len(self._versions) < most:
            self._indexes[values] = len(self._versions)
            self._versions.append(values)
            old = {column: value for column, value in zip(columns, values)}
            new = {column: k if source is None else old[source[1]] + k for column, source, k in statement.settings}
            values = tuple([new.get(column, old[column]) for column in columns])
        # The version to which the last one leads back, if it does.
        self._back = self._indexes.get(values, most)

    def floor(self, values, copies):
        """The index of the least version that may come, with these values now and these copies in the hands."""
        return min([self._indexes[values], self._back, *[self._indexes[copy] + 1 for copy in copies]])

    def since(self, index):
        """The versions from an index on."""
        return self._versions[index:]


class MovingRows:
    """A count of what has yet to come because of rows that move, for the states of a run."""

    def __init__(self, plan, moves, stays, sure, limit):
        statement = plan.statement
        self._moves = moves
        self._stays = stays
        self._is_outer_sure = sure[0]
        self._marked = [alias in plan.marks for alias in plan.order]
        self._target = plan.order.index(statement.references[0][0])
        self._is_asked = statement.kind == "update" and False in stays
        # Each version needs a fetch and a raise, so half the limit is enough.
        rows = moves.start()[0] if self._is_asked else ()
        self._chains = {number: RowVersions(statement, values, limit // 2 + 2) for number, values in rows}
        self._choices = {}
        self._scans = {}

    def least(self, state, targets):
        """A number of events without which the run does not end; these targets are written anyway."""
        if not self._is_asked:
            return 0
        floors = self._floors(state)
        scans = [some for some in self._open_scans(state, floors) if some[0] != ()]
        free = [at for at, (number, _) in enumerate(floors) if number in targets]
        return min([_effort(scans, written, free) for written in self._subsets(len(floors))])

    def _subsets(self, size):
        """All tuples of some of the first integers."""
        if size not in self._choices:
            found = [()]
            for at in range(size):
                found = found + [(*some, at) for some in found]
            self._choices[size] = found
        return self._choices[size]

    def _floors(self, state):
        """The rows of a state, each as its number and the index of the least version that may come."""
        copies = [copy for outer, _, due in state[3] for copy in self._targets(outer, due)]
        return tuple([(number, self._chains[number].floor(values, [copy[1] for copy in copies if copy[0] == number]))
                      for number, values in state[0]])

    def _targets(self, outer, due):
        """The copies of targets that a hand can still raise."""
        copies = [due[self._target]] if due != () else []
        return copies + [outer] if outer != () and self._target == 0 else copies

    def _open_scans(self, state, floors):
        """The scans over rows that move: the rows that keep each from its end, and what a fetch by it brings at least.

        What it brings is a number of fetches, itself included, and of raises.
        """
        _, touched, place, hands = state
        found = [] if self._stays[0] else [self._outer_scan(place, touched, floors)]
        if len(self._stays) == 1 or self._stays[1]:
            return found
        inner = [(outer, own) for outer, own, _ in hands if outer != ()]
        if self._stays[0] and self._is_outer_sure:
            coming = [row for _, row in self._moves.rows_ahead(state, (), place)]
            inner = inner + [(row, ()) for row in coming if self._moves.passes((row,))]
        return found + [self._inner_scan(outer, own, touched, floors) for outer, own in inner]

    def _inner_scan(self, outer, place, touched, floors):
        """The scan of a hand with an outer row."""
        key = (outer, place, touched, floors)
        if key not in self._scans:
            self._scans[key] = self._waiting((outer,), place, touched, floors), 1, self._raises((outer,), floors)
        return self._scans[key]

    def _outer_scan(self, place, touched, floors):
        """The shared scan."""
        key = (place, touched, floors)
        if key not in self._scans:
            waiting, fetches, raises = self._waiting((), place, touched, floors), 1, self._raises((), floors)
            if len(self._stays) == 2:
                fetches, raises = self._brought(touched, floors) if raises == 1 and not self._stays[1] else (1, 0)
            self._scans[key] = waiting, fetches, raises
        return self._scans[key]

    def _brought(self, touched, floors):
        """What a fetch of an outer row brings, with those of the scan that it opens, whichever row it is."""
        inner = [self._inner_scan(row, (), touched, floors) for row in self._all_coming(floors)]
        if () in [some[0] for some in inner]:
            return 1, 0
        return 2, min([some[2] for some in inner], default=0)

    def _all_coming(self, floors):
        """The rows in all versions that may come."""
        return [(number, values) for number, floor in floors for values in self._chains[number].since(floor)]

    def _waiting(self, outer, place, touched, floors):
        """The indexes of the rows that lie ahead of a place of a scan, in whatever version."""
        return tuple([at for at, row in enumerate(floors) if self._is_ahead(outer, place, touched, row)])

    def _is_ahead(self, outer, place, touched, row):
        """Whether a row lies ahead of a place of a scan in all versions that may come."""
        coming = self._all_coming([row])
        if self._marked[len(outer)] and (row[0] in touched or len(coming) > 1):
            # A mark lets the scan skip it when it has been written.
            return False
        return len(self._moves.behind(coming, outer, place)) == len(coming)

    def _raises(self, outer, floors):
        """How many raises a fetch of a scan surely brings: one, if all passes that may come."""
        reached = [row for _, row in self._moves.behind(self._all_coming(floors), outer, ())]
        return 1 if all([self._moves.passes((*outer, row)) for row in reached]) else 0


def _effort(scans, written, free):
    """How many events scans need at least if these of their rows are written before they would be fetched."""
    fetches, raises = 0, 0
    for waiting, each_fetches, each_raises in scans:
        count = max(1, len([at for at in waiting if at not in written]))
        fetches += each_fetches * count
        raises += each_raises * count
    return fetches + max(raises, len([at for at in written if at not in free]))
