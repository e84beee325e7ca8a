"""Points 24 to 27 once more: what clauses say of rows with any values, compared with the rows themselves."""

import itertools
import random
import unittest

from lively import lively_statement
from ownwake.plans import plans_of
from ownwake.scans import is_ahead
from ownwake.suspects import suspects_of
from samples import compare
from variants import fulfils

FAR = 10 ** 6


class Model:
    """The rows of a suspect with random values, and all that the document asks of them."""

    def __init__(self, source, plan, suspect):
        self.plan, self.statement = plan, plan.statement
        self.kind, self.levels, same = suspect
        self.tables = dict(self.statement.references)
        self.roles = ["written" if self.tables[alias] == self.statement.table else "other" for alias in plan.order]
        self.target = plan.order.index(self.statement.references[0][0])
        self.worth = {}
        self.source = source
        self.read_same(list(same))

    def read_same(self, same):
        """Rows are (role, number), or None if they are new; levels are counted from 0 here."""
        self.rows, self.writers = [], {}
        for level, role in enumerate(self.roles):
            new = self.kind == "new" and level + 1 in self.levels
            self.rows.append(None if new else (role, same.pop(0)))
        for number in self.levels:
            self.writers[number] = []
            for level, role in enumerate(self.roles):
                known = self.kind != "new" and level == self.target
                self.writers[number].append(self.rows[number - 1] if known else (role, same.pop(0)))
        assert same == []
        told = [*self.rows, *[row for rows in self.writers.values() for row in rows]]
        self.known = sorted({row for row in told if row is not None})

    def value(self, role, row, column):
        """The value of an unknown, which is any."""
        if (role, row, column) not in self.worth:
            self.worth[role, row, column] = self.source.randint(-2, 2)
        return self.worth[role, row, column]

    def columns(self, level):
        return self.statement.schema[self.tables[self.plan.order[level]]][1]

    def old(self, rows):
        """The values of a match, by column reference, as its rows stood at the beginning."""
        return {(self.plan.order[level], column): self.value(role, (number,), column)
                for level, (role, number) in enumerate(rows) for column in self.columns(level)}

    def is_moved(self, level):
        return self.kind != "missed" and level + 1 in self.levels

    def disturbing(self):
        """The values of the match that disturbs."""
        cells = {}
        for level, row in enumerate(self.rows):
            alias = self.plan.order[level]
            if row is not None:
                cells.update({(alias, column): self.value(row[0], (row[1],), column) for column in self.columns(level)})
            if self.is_moved(level):
                cells.update({(alias, column): value for column, value in self.settings(level, row).items()})
        return cells

    def settings(self, level, row):
        """The values that are set in a row, or those of a new row of the writer of a level."""
        if row is None:
            cells = self.old(self.writers[level + 1])
        else:
            cells = {(self.statement.references[0][0], column): self.value("written", (row[1],), column)
                     for column in self.statement.schema[self.statement.table][1]}
        return {column: k if some is None else cells[some] + k for column, some, k in self.statement.settings}

    def matches(self, cells):
        return all(compare(cells[x], sign, k if y is None else cells[y] + k)
                   for x, sign, y, k in self.statement.conditions)

    def has_link(self, at, row, cells):
        column, sign, reference, k = self.statement.probes[at][3]
        return compare(self.value(("first", "second")[at], row, column), sign, cells[reference] + k)

    def is_own(self, at, row):
        role = ("first", "second")[at]
        return all(compare(self.value(role, row, column), sign, k if other is None else self.value(role, row, other) + k)
                   for column, sign, other, k in self.statement.probes[at][2])

    def answers(self, cells, row):
        return all(self.is_own(at, row) and self.has_link(at, row, cells)
                   for at, probe in enumerate(self.statement.probes) if probe[0] == "some")

    def place(self, level, row, cells):
        """The number and the value of a row, as a path asks for them."""
        path = self.plan.paths[level]
        number = FAR if row is None else self.value(row[0], (row[1],), "#")
        return number, cells[self.plan.order[level], path[1]] if path != ("heap",) else 0

    def comes_first(self, one, ones, other, others, level):
        """Whether one match is ahead of another one at the levels up to this one; None if nothing decides."""
        for here in range(level):
            path = self.plan.paths[here]
            first, second = self.place(here, one[here], ones), self.place(here, other[here], others)
            if is_ahead(path, first, second):
                return True
            if is_ahead(path, second, first):
                return False
        return None

    def is_ahead(self, number):
        """Whether a writer is ahead of the match that disturbs."""
        rows = self.writers[number]
        if self.plan.hands == "many" and number == 2 and (rows[0] != self.rows[0] or self.is_moved(0)):
            return True
        return self.comes_first(rows, self.old(rows), self.rows, self.disturbing(), number) is True

    def marked(self, level):
        alias = self.plan.order[level]
        read = self.statement.reads(alias)
        return [column for column, _, _ in self.statement.settings if alias in self.plan.marks or column in read]

    def is_changed(self, level, row):
        new = self.settings(level, row)
        return any(new[column] != self.value("written", (row[1],), column) for column in self.marked(level))

    def are_unlike(self):
        for one, other in itertools.combinations(self.known, 2):
            if one[0] == other[0]:
                level = self.roles.index(one[0])
                keys = self.statement.schema[self.tables[self.plan.order[level]]][3]
                for column in ("#", *keys):
                    if self.value(one[0], (one[1],), column) == self.value(other[0], (other[1],), column):
                        return False
        return True

    def stays(self):
        """Whether the other row of e has not been changed before its turn."""
        if self.kind != "raised" or len(self.rows) == 1 or len(self.levels) == 2:
            return True
        level = 2 - self.levels[0]
        if self.roles[level] != "written" or level + 1 <= self.plan.hold or self.plan.keep:
            return True
        if self.plan.hands == "many" and level == 0:
            return True
        partners = [row for row in self.known if row[0] == self.roles[1 - self.target]]
        return all(self.is_harmless(level, partner) for partner in partners)

    def is_harmless(self, level, partner):
        rows = [None, None]
        rows[self.target], rows[1 - self.target] = self.rows[level], partner
        writer = self.writers[self.levels[0]]
        if self.plan.hands == "many" and rows[0] != writer[0]:
            return True
        cells = self.old(rows)
        if not self.matches(cells) or not self.is_changed(level, self.rows[level]):
            return True
        if any(self.fails(at, cells, (level + 1, rows[0][1], rows[1][1])) for at in range(len(self.statement.probes))):
            return True
        if self.plan.hands == "many":
            first = self.place(1, writer[1], self.old(writer))
            return writer[1] != rows[1] and is_ahead(self.plan.paths[1], first, self.place(1, rows[1], cells))
        return self.comes_first(rows, cells, self.rows, self.disturbing(), level + 1) is not True

    def fails(self, at, cells, further):
        """Whether a probe fails for a match, by the rows of the others or by a further one."""
        if self.statement.probes[at][0] == "some":
            return not any(self.has_link(at, (row,), cells) for row in (0, *self.levels))
        if not self.is_own(at, further) or not self.has_link(at, further, cells):
            return False
        others = [self.disturbing(), *[self.old(rows) for rows in self.writers.values()]]
        return not any(self.has_link(at, further, some) for some in others)

    def holds(self):
        """Whether all that is asked of a suspect holds; all values are looked at, so that all are drawn."""
        sights = [(0, self.disturbing()), *[(number, self.old(rows)) for number, rows in self.writers.items()]]
        asked = [self.matches(cells) for _, cells in sights] + [self.answers(cells, (row,)) for row, cells in sights]
        if self.statement.kind == "update":
            asked += [self.is_changed(number - 1, self.rows[number - 1]) for number in self.levels]
        return all([*asked, *[self.is_ahead(number) for number in self.levels], self.are_unlike(), self.stays()])


def growing(count):
    """All tuples in which each number is at most one more than those before."""
    found = [()]
    for _ in range(count):
        found = [(*some, number) for some in found for number in range(max(some, default=-1) + 2)]
    return found


def all_suspects(plan):
    """All that could be a suspect of a plan, with or without clauses that can hold."""
    statement = plan.statement
    tables = dict(statement.references)
    roles = [tables[alias] == statement.table for alias in plan.order]
    kinds = {"update": ("raised", "missed"), "delete": ("missed",), "insert": ("new",)}[statement.kind]
    target = plan.order.index(statement.references[0][0])
    for kind in kinds:
        for levels in ((1,), (2,), (1, 2)):
            if levels[-1] > len(roles) or kind == "missed" and len(levels) == 2 or plan.keep:
                continue
            if not all(roles[level - 1] and level > plan.hold for level in levels):
                continue
            if kind != "missed" and any(plan.order[level - 1] in plan.marks for level in levels):
                continue
            slots = [role for level, role in enumerate(roles) if kind != "new" or level + 1 not in levels]
            slots += [role for _ in levels for level, role in enumerate(roles) if kind == "new" or level != target]
            for written in growing(slots.count(True)):
                for others in growing(slots.count(False)):
                    rows = {True: iter(written), False: iter(others)}
                    yield kind, levels, tuple(next(rows[role]) for role in slots)


class AgainstRows(unittest.TestCase):
    def compare_all(self, source, statement, plan, rounds):
        """Compare the clauses of all suspects with their rows; count how often something is asked, and holds."""
        told = dict(suspects_of(plan))
        expected = list(all_suspects(plan))
        self.assertEqual(len(set(expected)), len(expected))
        self.assertLessEqual(set(told), set(expected))
        for suspect in expected:
            for _ in range(rounds):
                model = Model(source, plan, suspect)
                holds = model.holds()
                for clauses in [told[suspect]] if suspect in told else []:
                    for clause in clauses:
                        for alternative in clause:
                            for side in [side for some in alternative for side in some[:2] if side != ()]:
                                model.value(*side)
                    self.assertEqual(fulfils(clauses, model.worth), holds, (statement.text, plan.data, suspect))
                self.assertTrue(suspect in told or not holds, (statement.text, plan.data, suspect))
                self.held[suspect[:2]] = self.held.get(suspect[:2], 0) + holds

    def test_random_statements(self):
        self.held = {}
        source = random.Random(27)
        for _ in range(90):
            statement = lively_statement(source, keyed=0.2, probes=0.4, conditions=source.choice((0, 1, 1, 2, 3)))
            for hands in ("one", "many"):
                plans = [plan for plan in plans_of(statement, hands=hands) if not plan.keep]
                for plan in source.sample(plans, min(3, len(plans))):
                    self.compare_all(source, statement, plan, 12)
        self.assertGreater(len(self.held), 7)
        self.assertGreater(min(self.held.values()), 5, self.held)

    def test_updates_of_one_table_twice(self):
        self.held = {}
        source = random.Random(270)
        count = 0
        while count < 60:
            statement = lively_statement(source, "update", 2, keyed=0.1, probes=0.4, conditions=source.choice((1, 2)))
            if statement.references[1][1] != "t":
                continue
            count += 1
            for hands in ("one", "many"):
                plans = [plan for plan in plans_of(statement, hands=hands) if not plan.keep and plan.hold < 2]
                for plan in source.sample(plans, min(3, len(plans))):
                    self.compare_all(source, statement, plan, 12)
        self.assertGreater(min(self.held.values()), 5, self.held)


if __name__ == "__main__":
    unittest.main()
