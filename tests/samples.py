"""What several tests need: values of any kind, random statements, and slow models that are easy to believe."""

import itertools

from ownwake.databases import Database
from ownwake.schemas import Schema
from ownwake.statements import Statement


def deep(depth):
    """A tuple that is nested so deep."""
    thing = ()
    for _ in range(depth):
        thing = (thing,)
    return thing


# Values of many kinds, none of which is a name, an integer, a bool or a tuple that a test takes as right.
ODD = [
    None, True, False, 0, 1, -1, 10 ** 39, "", "t", "table", "A", "no such", "\n", (), (0,), ("t",), ("t", 0), [], [0],
    ["t"], {}, {"t": 1}, {1: ()}, (None,) * 3, ((),), ("t", 1, ()), [("t", ("a",), (), ())],
    deep(60), [[[]]], ({"a": [()]},),
]

KINDS = (str, int, bool, type(None), tuple)


def is_plain(thing):
    """Whether a result consists of strings, integers, bools, None and tuples, none of a subclass."""
    if type(thing) is tuple:
        return all(is_plain(part) for part in thing)
    return type(thing) in KINDS


def compare(left, sign, right):
    return {"<=": left <= right, ">=": left >= right, "=": left == right, "!=": left != right}[sign]


def value(rows, cell, k, schema, tables):
    """The value of a column reference plus k; rows are values by alias."""
    if cell is None:
        return k
    return rows[cell[0]][schema[tables[cell[0]]][1].index(cell[1])] + k


def holds(statement, condition, rows):
    x, sign, y, k = condition
    tables = dict(statement.references)
    left = value(rows, x, 0, statement.schema, tables)
    return compare(left, sign, value(rows, y, k, statement.schema, tables))


def probe_holds(statement, probe, rows, database):
    word, table, own, link = probe
    columns = statement.schema[table][1]
    right = value(rows, link[2], link[3], statement.schema, dict(statement.references))
    answers = 0
    for _, values in database[table]:
        cells = dict(zip(columns, values))
        if not compare(cells[link[0]], link[1], right):
            continue
        if all(compare(cells[c], sign, k if other is None else cells[other] + k) for c, sign, other, k in own):
            answers += 1
    return answers > 0 if word == "some" else answers == 0


def slow_matches(statement, database):
    """All matches, by trying every tuple of rows."""
    found = []
    for chosen in itertools.product(*[database[table] for _, table in statement.references]):
        rows = {alias: row[1] for (alias, _), row in zip(statement.references, chosen)}
        if all(holds(statement, some, rows) for some in statement.conditions):
            if all(probe_holds(statement, some, rows, database) for some in statement.probes):
                found.append(tuple(row[0] for row in chosen))
    return sorted(found)


def settings_of(statement, rows):
    """The values of the settings, in their order."""
    tables = dict(statement.references)
    return [(column, value(rows, source, k, statement.schema, tables)) for column, source, k in statement.settings]


def told_of(statement, rows):
    tables = dict(statement.references)
    return tuple(value(rows, cell, 0, statement.schema, tables) for cell in statement.told)


class SlowTable:
    """The written table while it is read, as a list of places gone through anew for each row."""

    def __init__(self, rows, following):
        self.rows = dict(rows)
        self.following = following
        self.touched = set()

    def after(self, path, at, place, low, high, marked):
        """The row that comes next for a path with its column's index."""
        best = None
        for number, values in self.rows.items():
            if marked and number in self.touched:
                continue
            here = (number,) if at is None else (values[at], number)
            if at is not None and not (low <= values[at] <= high):
                continue
            turn = -1 if path[0] == "down" else 1
            key = tuple(turn * part for part in here)
            if place is not None and key <= tuple(turn * part for part in place):
                continue
            if best is None or key < best[0]:
                best = (key, number, values, here)
        return None if best is None else best[1:]


FAR = 10 ** 30


class SlowRun:
    """A run by one hand as nested loops, or by many as the rules of a step; written for plainness alone."""

    def __init__(self, plan, database, limit=400):
        statement = plan.statement
        self.plan, self.statement, self.database = plan, statement, database
        parts = {part[0]: part for part in database.data}
        self.live = SlowTable(parts[statement.table][2], parts[statement.table][1])
        self.events, self.raised, self.limit = [], [], limit
        # Of each raised match its copies by alias, and the row that it wrote, removed or made, or None.
        self.copied, self.wrote = [], []
        self.tables = {}
        for alias, table in statement.references:
            same = table == statement.table and not plan.keep
            self.tables[alias] = self.live if same else SlowTable(parts[table][2], 0)

    def tests(self, copies):
        """Whether the last copy passes what is tested at its level."""
        order = self.plan.order
        alias, seen = order[len(copies) - 1], order[:len(copies)]
        rows = {name: copy[1] for name, copy in zip(order, copies)}
        for some in self.statement.conditions:
            used = [cell[0] for cell in (some[0], some[2]) if cell is not None]
            if alias in used and all(name in seen for name in used) and not holds(self.statement, some, rows):
                return False
        for some in self.statement.probes:
            if some[3][2][0] == alias and not probe_holds(self.statement, some, rows, self.database):
                return False
        return True

    def bounds(self, level, copies):
        """The bounds of the scan of a level, by trying each condition's two sides."""
        low, high = -FAR, FAR
        order, path = self.plan.order, self.plan.paths[level - 1]
        cell = (order[level - 1], path[1])
        rows = {name: copy[1] for name, copy in zip(order, copies)}
        schema, tables = self.statement.schema, dict(self.statement.references)
        for x, sign, y, k in self.statement.conditions:
            used = {some[0] for some in (x, y) if some is not None}
            if sign == "!=" or not used <= set(order[:level]) or order[level - 1] not in used:
                continue
            if x == cell and (y is None or y[0] != x[0]):
                limit = value(rows, y, k, schema, tables)
                high = min(high, limit)
                low = max(low, limit) if sign == "=" else low
            if y == cell and y[0] != x[0]:
                limit = value(rows, x, 0, schema, tables) - k
                low = max(low, limit)
                high = min(high, limit) if sign == "=" else high
        return low, high

    def after(self, level, copies, place):
        alias, path = self.plan.order[level - 1], self.plan.paths[level - 1]
        columns = self.statement.schema[dict(self.statement.references)[alias]][1]
        at = None if path[0] == "heap" else columns.index(path[1])
        low, high = (0, 0) if at is None else self.bounds(level, copies)
        return self.tables[alias].after(path, at, place, low, high, alias in self.plan.marks)

    def walk(self, level, last, copies):
        """Go through the copies that pass the levels up to the last one, noting each fetch."""
        place = None
        while (found := self.after(level, copies, place)) is not None:
            number, values, place = found
            self.note(("fetch", 0, level, number))
            now = [*copies, (number, values)]
            if self.tests(now):
                if level == last:
                    yield now
                else:
                    yield from self.walk(level + 1, last, now)

    def note(self, event):
        if len(self.events) >= self.limit:
            raise StopRun()
        self.events.append(event)

    def write(self, hand, copies):
        """Raise a match."""
        statement, live = self.statement, self.live
        by_alias = dict(zip(self.plan.order, copies))
        numbers = tuple(by_alias[alias][0] for alias, _ in statement.references)
        rows = {alias: copy[1] for alias, copy in by_alias.items()}
        self.note(("raise", hand, numbers))
        self.raised.append((numbers, told_of(statement, rows)))
        settings = dict(settings_of(statement, rows))
        columns = statement.schema[statement.table][1]
        self.copied.append(by_alias)
        self.wrote.append(None)
        if statement.kind == "insert":
            live.rows[live.following] = tuple(settings[column] for column in columns)
            live.touched.add(live.following)
            self.wrote[-1] = live.following
            live.following += 1
        elif statement.kind == "delete":
            self.wrote[-1] = numbers[0] if live.rows.pop(numbers[0], None) is not None else None
        else:
            old = live.rows[numbers[0]]
            new = tuple(settings.get(column, cell) for column, cell in zip(columns, old))
            if new != old:
                live.rows[numbers[0]] = new
                live.touched.add(numbers[0])
                self.wrote[-1] = numbers[0]

    def by_one_hand(self):
        """Run to the end, or to the limit; return whether it is the end."""
        plan, last = self.plan, len(self.plan.order)
        try:
            if plan.hold == 0:
                for copies in self.walk(1, last, []):
                    self.write(0, copies)
                return True
            for copies in list(self.walk(1, plan.hold, [])):
                if plan.hold == last:
                    self.write(0, copies)
                else:
                    for more in self.walk(plan.hold + 1, last, copies):
                        self.write(0, more)
            return True
        except StopRun:
            return False

    def data(self):
        name = self.statement.table
        now = (name, self.live.following, tuple(sorted(self.live.rows.items())))
        return tuple(now if part[0] == name else part for part in self.database.data)


class StopRun(Exception):
    pass


class SlowHands(SlowRun):
    """A run by many hands."""

    def __init__(self, plan, database):
        super().__init__(plan, database)
        self.shared = None
        self.hands = {}

    def step(self, hand):
        """Make an event of a hand and return it, or None if it is idle."""
        own = self.hands.setdefault(hand, {"outer": None, "place": None, "due": None})
        last = len(self.plan.order)
        if own["due"] is not None:
            copies, own["due"] = own["due"], None
            self.write(hand, copies)
            return self.events[-1]
        if own["outer"] is not None and last == 2:
            found = self.after(2, [own["outer"]], own["place"])
            if found is not None:
                number, values, own["place"] = found
                copies = [own["outer"], (number, values)]
                own["due"] = copies if self.tests(copies) else None
                self.note(("fetch", hand, 2, number))
                return self.events[-1]
        found = self.after(1, [], self.shared)
        if found is None:
            return None
        number, values, self.shared = found
        own["outer"], own["place"], own["due"] = None, None, None
        if self.tests([(number, values)]):
            if last == 1:
                own["due"] = [(number, values)]
            else:
                own["outer"] = (number, values)
        self.note(("fetch", hand, 1, number))
        return self.events[-1]


    def is_idle(self):
        """Whether no hand can make an event, also none that has not stepped yet."""
        for own in self.hands.values():
            if own["due"] is not None:
                return False
            if own["outer"] is not None and self.after(2, [own["outer"]], own["place"]) is not None:
                return False
        return self.after(1, [], self.shared) is None


def read_columns(statement, alias):
    """The columns that a reference reads, from the parts of the statement."""
    cells = [cell for some in statement.conditions for cell in (some[0], some[2])]
    cells += [some[3][2] for some in statement.probes] + [some[1] for some in statement.settings]
    return {cell[1] for cell in [*cells, *statement.told] if cell is not None and cell[0] == alias}


def slow_verdict(slow, ended):
    """The verdict of a slow run, by the words of the document."""
    statement, database = slow.statement, slow.database
    matches = slow_matches(statement, database)
    seen = []

    def writer(numbers):
        rows = [number for number, (_, table) in zip(numbers, statement.references) if table == statement.table]
        return next(told for (told, _), row in zip(slow.raised, slow.wrote) if row is not None and row in rows)

    for (numbers, _), copies in zip(slow.raised, slow.copied):
        if numbers not in matches:
            return "extra", numbers, writer(numbers)
        if numbers in seen:
            return "again", numbers, writer(numbers)
        for (alias, table), number in zip(statement.references, numbers):
            columns = statement.schema[table][1]
            old = dict(database[table])[number]
            for column in read_columns(statement, alias):
                if copies[alias][1][columns.index(column)] != old[columns.index(column)]:
                    return "changed", numbers, writer(numbers)
        seen.append(numbers)
    if not ended:
        return ("open",)
    missing = [numbers for numbers in matches if numbers not in seen]
    return ("missing", missing[0], writer(missing[0])) if missing else ("plain",)


def random_schema(source):
    """Tables t and u, which statements reference, and p and q, which they probe."""
    tables = []
    for name in ("t", "u", "p", "q"):
        columns = ("a", "b", "c")[:source.choice((1, 2, 3)) if name in "pq" else source.choice((2, 3))]
        indexes = tuple(column for column in columns if source.random() < 0.7)
        tables.append((name, columns, indexes, ()))
    return Schema(*tables)


def random_database(source, schema, most=4, spread=4):
    data = []
    for name, columns, _, _ in schema.tables:
        numbers = sorted(source.sample(range(most + 3), source.randint(0, most)))
        rows = tuple((n, tuple(source.randint(-spread, spread) for _ in columns)) for n in numbers)
        data.append((name, source.randint(0, 2) + (numbers[-1] + 1 if numbers else 0), rows))
    return Database(schema, tuple(data))


def random_statement(source, schema, kind=None):
    kind = kind or source.choice(("update", "delete", "insert"))
    table = "t"
    named = [("x", table if kind != "insert" else source.choice("tu"))]
    if source.random() < 0.7:
        named.append(("y", source.choice("tu")))
    references = tuple(named)
    cells = [(alias, column) for alias, name in references for column in schema[name][1]]
    conditions = []
    for _ in range(source.randint(0, 4)):
        other = source.choice([None, *cells])
        conditions.append((source.choice(cells), source.choice(("<=", "<=", "=", "!=")), other, source.randint(-2, 3)))
    probes = []
    for name in source.sample(("p", "q"), source.choice((0, 0, 1, 2))):
        columns = schema[name][1]
        own = tuple((source.choice(columns), source.choice(("<=", "=")), source.choice((None, *columns)),
                     source.randint(-2, 2)) for _ in range(source.randint(0, 2)))
        link = (source.choice(columns), source.choice(("<=", "=", ">=")), source.choice(cells), source.randint(-2, 2))
        probes.append((source.choice(("some", "none")), name, own, link))
    settings = ()
    if kind == "insert":
        settings = tuple((column, source.choice([None, *cells]), source.randint(-2, 3)) for column in schema[table][1])
    if kind == "update":
        own_cells = [cell for cell in cells if cell[0] == "x"]
        columns = [column for column in schema[table][1] if source.random() < 0.7] or [schema[table][1][0]]
        settings = tuple((column, source.choice([None, *own_cells, *own_cells]), source.randint(-2, 3))
                         for column in columns)
    told = tuple(source.choice(cells) for _ in range(source.randint(0, 2)))
    return Statement(schema, kind, table, references,
                     conditions=tuple(conditions), probes=tuple(probes), settings=settings, told=told)
