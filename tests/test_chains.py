"""Points 31 to 33: how often a statement meets its own rows, beside a walk of each chain, member by member."""

import itertools
import random
import re
import time
import unittest

from lively import lively_database, lively_statement
from ownwake.chains import links, raised_in_all
from ownwake.databases import Database
from ownwake.errors import NoChain, NoRow
from ownwake.lives import LiveRun
from ownwake.plans import Plan, plans_of
from ownwake.schemas import Schema
from ownwake.statements import Statement
from samples import ODD, holds, probe_holds, settings_of

SCHEMA = Schema(("p", ("q",), (), ()), ("r", ("m", "n"), (), ()), ("t", ("a", "b", "c"), ("a", "b", "c"), ("b",)),
                ("u", ("d",), ("d",), ()))
HEAP = ("heap",)
BIG = 10 ** 30


def planned(text, path=HEAP, schema=SCHEMA, **parts):
    return Plan(Statement.read(schema, text), None, (path,), **parts)


def built(rows, **others):
    parts = {"t": tuple(enumerate(rows))}
    parts.update({name: tuple(enumerate(some)) for name, some in others.items()})
    return Database(SCHEMA, tuple((name, 9999, parts.get(name, ())) for name in ("p", "r", "t", "u")))


def with_path(text, path):
    """A statement's text with a condition that always holds, but allows an index path."""
    if path == HEAP:
        return text
    first, _, rest = text.partition("\n")
    return f"{first}\nwhere x.{path[1]} <= x.{path[1]}\n{rest}"


def plus(cell, k):
    """The text of a column reference plus an integer."""
    return cell if k == 0 else f"{cell} + {k}" if k > 0 else f"{cell} - {-k}"


def slow_links(plan, database, number, limit=200):
    """The links of a chain by the words of the document, or None if there are more than a limit."""
    statement, path = plan.statement, plan.paths[0]
    (alias, table), = statement.references
    columns, written = statement.schema[table][1], statement.schema[statement.table][1]
    following = {part[0]: part[1] for part in database.data}[statement.table]
    values, count = dict(database[table])[number], 0
    while count <= limit:
        rows = {alias: values}
        if not all(holds(statement, some, rows) for some in statement.conditions):
            return count
        if not all(probe_holds(statement, some, rows, database) for some in statement.probes):
            return count
        count += 1
        settings = dict(settings_of(statement, rows))
        new = number if statement.kind == "update" else following
        following += 1
        if table != statement.table:
            return count
        after = tuple(settings.get(column, cell) for column, cell in zip(written, values))
        if statement.kind == "update" and after == values:
            return count
        one, other = (number,), (new,)
        if path != HEAP:
            at = columns.index(path[1])
            one, other = (values[at], number), (after[at], new)
        if not (one > other if path[0] == "down" else one < other):
            return count
        number, values = new, after
    return None


class ChainTest(unittest.TestCase):
    def check(self, plan, database, expected=None):
        """Whether the links of all rows are those of a walk, and these; return them."""
        before, name = database.data, plan.statement.references[0][1]
        found = [links(plan, database, number) for number, _ in database[name]]
        for (number, values), count in zip(database[name], found):
            walked = slow_links(plan, database, number)
            if walked is None:
                self.assertTrue(count == "endless" or count > 200, (plan.statement.text, plan.paths, values))
            else:
                self.assertEqual(count, walked, (plan.statement.text, plan.paths, values))
        for count in found:
            self.assertIn(type(count), (int, str))
        total = "endless" if "endless" in found else sum(found)
        self.assertEqual(raised_in_all(plan, database), total)
        self.assertEqual(database.data, before)
        if expected is not None:
            self.assertEqual(found, expected, (plan.statement.text, plan.paths))
        return found


class Walks(ChainTest):
    def test_updates(self):
        text = "update t from x t\nwhere x.a <= 5\nset a to x.a + 2"
        rows = built([(1, 0, 0), (4, 1, 0), (6, 2, 0), (5, 3, 0), (-5, 4, 0)])
        self.check(planned(text, ("up", "a")), rows, [3, 1, 0, 1, 6])
        self.check(planned(text, ("down", "a")), rows, [1, 1, 0, 1, 1])
        self.check(planned(text), rows, [1, 1, 0, 1, 1])

    def test_updates_downwards(self):
        text = "update t from x t\nwhere x.b != 3\nwhere x.a <= 9\nset a to x.a - 3\nset b to x.b + 1"
        rows = built([(1, 0, 0), (1, 2, 0), (1, 3, 0), (10, 1, 0), (1, 4, 0)])
        self.check(planned(text, ("down", "a")), rows, [3, 1, 0, 0, "endless"])
        self.check(planned(text, ("up", "a")), rows, [1, 1, 0, 0, 1])
        self.check(planned(text), rows, [1, 1, 0, 0, 1])

    def test_a_row_that_has_its_new_values(self):
        text = "update t from x t\nwhere x.a <= 5\nset a to 4\nset c to x.c"
        rows = built([(4, 0, 0), (3, 1, 0), (5, 2, 0), (6, 3, 0)])
        self.check(planned(text, ("up", "a")), rows, [1, 2, 1, 0])
        self.check(planned(text, ("down", "a")), rows, [1, 1, 2, 0])
        self.check(planned(text), rows, [1, 1, 1, 0])

    def test_a_column_that_is_not_the_paths(self):
        text = "update t from x t\nwhere x.a <= 5\nset c to x.c + 1"
        rows = built([(4, 0, 0), (6, 1, 0)])
        self.check(planned(text, ("up", "a")), rows, [1, 0])
        self.check(planned(text, ("down", "a")), rows, [1, 0])

    def test_inserts_into_the_table_itself(self):
        text = "insert t from x t\nwhere x.a <= 5\nset a to x.a + 2\nset b to x.b + 9\nset c to 0"
        rows = built([(1, 0, 0), (4, 1, 0), (6, 2, 0)])
        self.check(planned(text), rows, [3, 1, 0])
        self.check(planned(text, ("up", "a")), rows, [3, 1, 0])
        self.check(planned(text, ("down", "a")), rows, [1, 1, 0])
        # Among equal values the new row is behind upwards, and ahead downwards.
        text = "insert t from x t\nwhere x.b <= 20\nwhere x.a <= 5\nset a to x.a\nset b to x.b + 9\nset c to 0"
        rows = built([(1, 0, 0), (4, 13, 0), (6, 2, 0)])
        self.check(planned(text), rows, [3, 1, 0])
        self.check(planned(text, ("up", "a")), rows, [3, 1, 0])
        self.check(planned(text, ("down", "a")), rows, [1, 1, 0])
        text = "insert t from x t\nwhere x.b <= 20\nwhere x.a <= 5\nset a to x.a - 1\nset b to x.b + 9\nset c to 0"
        self.check(planned(text), rows, [3, 1, 0])
        self.check(planned(text, ("up", "a")), rows, [1, 1, 0])
        self.check(planned(text, ("down", "a")), rows, [3, 1, 0])

    def test_inserts_of_the_same_values(self):
        text = "insert t from x t\nwhere x.a <= 5\nset a to x.a\nset b to x.b\nset c to x.c"
        rows = built([(1, 0, 0), (6, 2, 0)])
        self.check(planned(text), rows, ["endless", 0])
        self.check(planned(text, ("up", "a")), rows, ["endless", 0])
        self.check(planned(text, ("down", "a")), rows, [1, 0])

    def test_inserts_from_another_table(self):
        text = "insert t from x u\nwhere x.d <= 5\nset a to x.d\nset b to x.d + 1\nset c to 0"
        rows = built([(1, 0, 0)], u=[(1,), (6,), (1,), (5,)])
        for path in (HEAP, ("up", "d"), ("down", "d")):
            self.check(planned(text, path), rows, [1, 0, 1, 1])
        # A column of the written table has the name of the one that is read.
        text = "insert u from x t\nwhere x.a <= 5\nset d to x.a"
        for path in (HEAP, ("up", "a"), ("down", "a")):
            self.check(planned(text, path), built([(1, 0, 0), (6, 1, 0)]), [1, 0])

    def test_keys_are_not_looked_at(self):
        text = "update t from x t\nwhere x.a <= 5\nset a to x.a + 2\nset b to 7"
        self.check(planned(text, ("up", "a")), built([(1, 0, 0), (4, 7, 0)]), [3, 1])
        text = "insert t from x t\nwhere x.a <= 5\nset a to x.a + 2\nset b to x.b\nset c to 0"
        self.check(planned(text), built([(1, 0, 0)]), [3])

    def test_no_rows_and_gaps_between_numbers(self):
        text = "update t from x t\nwhere x.a <= 5\nset a to x.a + 2"
        self.check(planned(text, ("up", "a")), built([]), [])
        rows = ((3, (1, 0, 0)), (7, (4, 1, 0)), (10 ** 39, (0, 2, 0)))
        data = (("p", 0, ()), ("r", 0, ()), ("t", 10 ** 40, rows), ("u", 0, ()))
        self.check(planned(text, ("up", "a")), Database(SCHEMA, data), [3, 1, 3])
        text = "insert t from x t\nwhere x.a <= 5\nset a to x.a + 2\nset b to 0\nset c to 0"
        self.check(planned(text), Database(SCHEMA, data), [3, 1, 3])

    def test_statements_without_conditions(self):
        up = planned("insert t from x t\nset a to x.a\nset b to 0\nset c to x.b")
        self.check(up, built([(1, 0, 0), (4, 1, 0)]), ["endless", "endless"])
        self.check(up, built([]), [])
        self.check(planned("update t from x t\nset a to x.a + 1"), built([(1, 0, 0), (4, 1, 0)]), [1, 1])
        self.check(planned("update t from x t\nwhere x.a <= x.a\nset a to x.a + 1", ("up", "a")), built([(1, 0, 0)]), ["endless"])

    def test_random_walks(self):
        source = random.Random(31)
        counts = []
        for _ in range(1500):
            kind = source.choice(("update", "insert"))
            statement = lively_statement(source, kind, 1, probes=0.4, keyed=0.2, conditions=source.choice((1, 2, 2, 3, 5)))
            for plan in plans_of(statement):
                if plan.hold == 0 and plan.marks == () and not plan.keep:
                    counts += self.check(plan, lively_database(source, statement.schema, most=5, spread=4, least=1))
        for count in (0, 1, 2, 3, 4, "endless"):
            self.assertGreater(counts.count(count), 5, count)

    def test_what_a_run_raises(self):
        source = random.Random(32)
        seen = []
        for _ in range(500):
            statement = lively_statement(source, source.choice(("update", "insert")), 1, probes=0.3, keyed=0.2,
                                         conditions=source.choice((1, 2, 3)))
            for plan in plans_of(statement):
                if plan.hold == 0 and plan.marks == () and not plan.keep:
                    database = lively_database(source, statement.schema, most=5, spread=4, least=1)
                    run = LiveRun(plan, database)
                    has_ended = run.go(200)
                    count = raised_in_all(plan, database)
                    if has_ended:
                        self.assertEqual(count, len(run.raised))
                    else:
                        self.assertEqual(count, "endless")
                    seen.append(count)
        self.assertGreater(seen.count("endless"), 20)
        self.assertGreater(len(set(seen)), 8)


class Errors(ChainTest):
    def test_no_chain(self):
        text = "update t from x t\nwhere x.a <= 5\nset a to x.a + 2"
        two = "update t from x t, y u\nwhere x.a <= 5\nset a to x.a + 2"
        plans = [planned("delete t from x t\nwhere x.a <= 5"), planned(text, hold=1), planned(text, marks=("x",)),
                 planned(text, keep=True), planned(text, hands="many"), planned(text, marks=("x",), hands="many"),
                 planned(text, ("up", "a"), hold=1, marks=("x",)), Plan(Statement.read(SCHEMA, two)),
                 Plan(Statement.read(SCHEMA, "delete t from x t, y u"))]
        for plan in plans:
            # The number is looked at behind the plan.
            for number in (0, 7, "x", None, True, [0]):
                with self.assertRaises(NoChain) as caught:
                    links(plan, built([(1, 0, 0)]), number)
                self.assertEqual(caught.exception.plan_data, plan.data)
            with self.assertRaises(NoChain) as caught:
                raised_in_all(plan, built([(1, 0, 0)]))
            self.assertEqual(caught.exception.plan_data, plan.data)
            self.assertRaises(NoChain, raised_in_all, plan, built([]))

    def test_no_row(self):
        plan = planned("update t from x t\nwhere x.a <= 5\nset a to x.a + 2", ("up", "a"))
        database = built([(1, 0, 0), (4, 1, 0)])
        for number in [2, -1, 10 ** 39, *[some for some in ODD if type(some) is not int]]:
            with self.assertRaises(NoRow) as caught:
                links(plan, database, number)
            self.assertEqual(caught.exception.name, "t")
            self.assertIs(caught.exception.number, number)
        # True and False are no numbers.
        self.assertEqual([links(plan, database, number) for number in (0, 1)], [3, 1])
        other = planned("insert t from x u\nset a to x.d\nset b to x.d\nset c to 0")
        with self.assertRaises(NoRow) as caught:
            links(other, built([(1, 0, 0)], u=[]), 0)
        self.assertEqual((caught.exception.name, caught.exception.number), ("u", 0))

    def test_by_name(self):
        plan = planned("update t from x t\nwhere x.a <= 5\nset a to x.a + 2", ("up", "a"))
        self.assertEqual(links(plan=plan, database=built([(1, 0, 0)]), number=0), 3)
        self.assertEqual(raised_in_all(plan=plan, database=built([(1, 0, 0)])), 3)


class FarEnds(ChainTest):
    """Chains whose links are told by division, beside the same chain made small."""

    def scaled(self, text, rows, path, **others):
        """The links of all rows, after a check that they are the same where all integers are many times as great."""
        text = with_path(text, path)
        found = self.check(planned(text, path), built(rows, **others))
        great = re.sub(r"\d+", lambda digits: str(int(digits[0]) * BIG), text)
        wide = [tuple(cell * BIG for cell in row) for row in rows]
        more = {name: [tuple(cell * BIG for cell in row) for row in some] for name, some in others.items()}
        plan, database = planned(great, path), built(wide, **more)
        self.assertEqual([links(plan, database, number) for number in range(len(rows))], found, (text, path))
        return found

    def test_division(self):
        begun = time.time()
        rows = built([(0, 0, 0), (1, 1, 0), (-BIG, 2, 0)])
        plan = planned(f"update t from x t\nwhere x.a <= {10 ** 39}\nset a to x.a + 1", ("up", "a"))
        self.assertEqual([links(plan, rows, number) for number in range(3)], [10 ** 39 + 1, 10 ** 39, 10 ** 39 + 1 + BIG])
        self.assertEqual(raised_in_all(plan, rows), 3 * 10 ** 39 + 2 + BIG)
        plan = planned(f"update t from x t\nwhere x.a <= {10 ** 39}\nset a to x.a + 7", ("up", "a"))
        self.assertEqual(links(plan, rows, 0), 10 ** 39 // 7 + 1)
        plan = planned(f"update t from x t\nwhere x.a != {-10 ** 39}\nwhere x.a <= 0\nset a to x.a - 10", ("down", "a"))
        self.assertEqual([links(plan, rows, number) for number in range(2)], [10 ** 38, 0])
        plan = planned(f"update t from x t\nwhere x.a != {-10 ** 39}\nwhere x.a <= 1\nset a to x.a - 10", ("down", "a"))
        self.assertEqual([links(plan, rows, number) for number in range(2)], [10 ** 38, "endless"])
        self.assertLess(time.time() - begun, 1)

    def test_turns_of_two_columns(self):
        for sign, path in itertools.product(("<=", "!="), (("up", "a"), ("down", "a"), ("up", "b"), HEAP)):
            for more in ("", " + 1"):
                text = f"insert t from x t\nwhere x.a {sign} 6\nwhere x.b <= 9\nset a to x.b{more}\nset b to x.a + 3\nset c to 0"
                self.scaled(text, [(0, 0, 0), (-5, 3, 0), (3, -5, 0), (2, 1, 0), (7, 2, 0), (6, 4, 0)], path)
        # Every second link a is where it was, three more.
        plan = planned(f"insert t from x t\nwhere x.a <= {3 * BIG}\nwhere x.b <= {5 * BIG}\n"
                       "set a to x.b\nset b to x.a + 3\nset c to 0")
        self.assertEqual(links(plan, built([(0, 0, 0)]), 0), 2 * BIG + 2)
        self.assertEqual(links(plan, built([(2 * BIG, 0, 0)]), 0), 2 * (BIG // 3 + 1))

    def test_turns_of_three_columns(self):
        for path in (HEAP, ("up", "a"), ("down", "b"), ("up", "c")):
            text = "insert t from x t\nwhere x.a <= 8\nwhere x.b != 5\nwhere x.c <= 9\nset a to x.b\nset b to x.c + 1\nset c to x.a + 2"
            self.scaled(text, [(0, 0, 0), (-5, 3, 1), (3, -5, 2), (2, 1, 9), (7, 2, 10), (6, 5, 4)], path)
        plan = planned(f"insert t from x t\nwhere x.a <= {BIG}\nset a to x.b\nset b to x.c\nset c to x.a + 1")
        # a is 0 thrice, then 1 thrice, and so on.
        self.assertEqual(links(plan, built([(0, 0, 0)]), 0), 3 * (BIG + 1))
        self.assertEqual(links(plan, built([(0, 1, 0)]), 0), 3 * BIG + 1)
        self.assertEqual(links(plan, built([(1, 0, 0)]), 0), 3 * BIG)

    def test_copies_and_constants(self):
        for path in (HEAP, ("up", "a"), ("up", "b"), ("down", "c")):
            for text in ("insert t from x t\nwhere x.a <= 5\nset a to x.b\nset b to x.c\nset c to 6",
                         "insert t from x t\nwhere x.a <= 5\nset a to x.b + 1\nset b to x.c + 1\nset c to 2",
                         "insert t from x t\nwhere x.a <= 5\nset a to x.b + 1\nset b to x.b\nset c to x.a",
                         "insert t from x t\nwhere x.a <= 9\nset a to x.b + 1\nset b to x.b + 2\nset c to x.a",
                         "insert t from x t\nwhere x.c <= 9\nset a to x.a + 1\nset b to x.a\nset c to x.b"):
                self.scaled(text, [(0, 0, 0), (5, 9, 1), (1, 4, 3), (6, 1, 9), (2, 3, 10)], path)
        # The constant comes to a after three links.
        plan = planned("insert t from x t\nwhere x.a <= 5\nset a to x.b\nset b to x.c\nset c to 6")
        rows = built([(0, 0, 0), (0, 1, 6), (0, 6, 0), (6, 3, 0)])
        self.check(plan, rows, [3, 2, 1, 0])

    def test_conditions_that_are_hit_once_or_passed_over(self):
        for sign, path in itertools.product(("=", "!=", "<="), (("up", "a"), ("down", "a"))):
            for step in (1, 2, 3, -1, -2):
                for right in ("7", "-7", "x.b", "x.b + 7", "x.b - 7", "x.a", "x.c"):
                    text = f"update t from x t\nwhere x.a {sign} {right}\nset a to {plus('x.a', step)}"
                    self.scaled(text, [(0, 0, 5), (1, 1, -5), (7, 7, 1), (-7, -6, 1), (-20, 5, 3), (20, -5, 3)], path)
        plan = planned(f"update t from x t\nwhere x.a <= x.a\nwhere x.a != {BIG}\nset a to x.a + 1", ("up", "a"))
        self.assertEqual([links(plan, built([(0, 0, 0), (BIG, 1, 0), (BIG + 1, 2, 0)]), number) for number in range(3)],
                         [BIG, 0, "endless"])

    def test_a_column_beside_a_column(self):
        for one, other in itertools.product((-2, -1, 0, 1, 3), repeat=2):
            for sign, right in itertools.product(("<=", "=", "!="), ("x.b", "x.b + 4", "x.b - 4")):
                text = (f"insert t from x t\nwhere x.a {sign} {right}\nset a to {plus('x.a', one)}\n"
                        f"set b to {plus('x.b', other)}\nset c to 0")
                for path in (HEAP, ("up", "a"), ("down", "a")):
                    self.scaled(text, [(0, 0, 0), (0, 5, 0), (7, 2, 0), (-4, 1, 0), (9, -9, 1)], path)
        plan = planned(f"insert t from x t\nwhere x.a <= x.b + {BIG}\nset a to x.a + 5\nset b to x.b + 2\nset c to 0")
        self.assertEqual(links(plan, built([(0, 0, 0)]), 0), BIG // 3 + 1)

    def test_probes(self):
        found = set()
        for word, sign, step in itertools.product(("some", "none"), ("<=", "=", ">="), (2, 3, -1, -3, 0)):
            for values in ([], [4], [4, 4], [0, 2, 4, 6, 12, 100], [-9, -6, -3, 0, 3, 6, 9, 30], [0, 1, 2, 3, 4, 5]):
                text = f"insert t from x t\n{word} p where q {sign} x.a\nset a to {plus('x.a', step)}\nset b to 0\nset c to 0"
                rows = [(0, 0, 0), (1, 5, 0), (4, 2, 0), (-40, 7, 0), (41, 1, 0), (9, 9, 1)]
                found.update(self.scaled(text, rows, HEAP, p=[(value,) for value in values]))
        self.assertGreater(len(found), 12)
        self.assertIn("endless", found)

    def test_two_probes_with_own_conditions(self):
        source = random.Random(33)
        for _ in range(300):
            own = source.choice(("", " and n <= 2", " and n = m + 1", " and m = 1 and n <= m"))
            text = (f"insert t from x t\n{source.choice(('some', 'none'))} p where q {source.choice(('<=', '=', '>='))} x.b + 1\n"
                    f"{source.choice(('some', 'none'))} r where n {source.choice(('<=', '=', '>='))} x.a{own}\n"
                    "set a to x.b + 1\nset b to x.a\nset c to 0")
            if source.random() < 0.5:
                text = text.replace("x.b + 1\nset b", "x.b - 1\nset b")
            rows = [(source.randint(-3, 3), number, 0) for number in range(4)]
            p = [(source.randint(-4, 4),) for _ in range(source.randint(0, 6))]
            r = [(source.randint(-2, 2), source.randint(-4, 4)) for _ in range(source.randint(0, 6))]
            self.scaled(text, rows, HEAP, p=p, r=r)

    def test_probes_far_away(self):
        text = "insert t from x t\n{} p where q {} x.a\nset a to x.a + 3\nset b to 0\nset c to 0"
        rows = built([(0, 0, 0), (1, 1, 0)], p=[(3 * BIG,), (6 * BIG + 1,), (-3 * BIG,)])
        for word, sign, expected in [("none", "=", [BIG, 2 * BIG]), ("some", "=", [0, 0]), ("some", ">=", [2 * BIG + 1] * 2),
                                     ("none", ">=", [0, 0]), ("some", "<=", ["endless"] * 2)]:
            plan = planned(text.format(word, sign))
            self.assertEqual([links(plan, rows, number) for number in (0, 1)], expected, (word, sign))
        rows = built([(0, 0, 0), (1, 1, 0)], p=[(3 * BIG,), (6 * BIG + 1,)])
        self.assertEqual([links(planned(text.format("none", "<=")), rows, number) for number in (0, 1)], [BIG] * 2)

    def test_great_numbers_of_links_that_end_by_different_tests(self):
        text = ("insert t from x t\nwhere x.a <= {0}\nwhere x.b != {1}\nsome p where q >= x.a\n"
                "set a to x.b\nset b to x.a + 2\nset c to 0")
        rows = built([(0, 1, 0)], p=[(4 * BIG,)])
        plan = planned(text.format(5 * BIG, 3 * BIG))
        # b is 1, 2, 3, .. in turn, a is 0, 1, 2, ..
        self.assertEqual(links(plan, rows, 0), 3 * BIG - 1)
        self.assertEqual(links(planned(text.format(2 * BIG, 3 * BIG)), rows, 0), 2 * BIG + 1)
        self.assertEqual(links(planned(text.format(5 * BIG, -3 * BIG)), rows, 0), 4 * BIG + 1)

    def test_random_scaled_chains(self):
        source = random.Random(34)
        cells, counts = ["x.a", "x.b", "x.c"], []
        for _ in range(500):
            kind = source.choice(("update", "insert"))
            settings = [f"set {column} to " + source.choice([f"{cell} + {k}" for cell in cells for k in (1, 2)] + [
                f"{cell} - 2" for cell in cells] + cells + ["3", "-3"]) for column in "abc"]
            conditions = [f"where {source.choice(cells)} {source.choice(('<=', '=', '!=', '!='))} "
                          f"{source.choice(cells + ['4', '7', '-6'] + [cell + ' + 5' for cell in cells])}"
                          for _ in range(source.choice((0, 1, 1, 2, 3)))]
            text = "\n".join([f"{kind} t from x t", *conditions, *settings])
            rows = [(source.randint(-8, 8), number - 2, source.randint(-8, 8)) for number in range(5)]
            for path in (HEAP, (source.choice(("up", "down")), source.choice("abc"))):
                counts += self.scaled(text, rows, path)
        self.assertGreater(len(set(counts)), 8)


class ManyRows(ChainTest):
    def test_databases_of_any_size(self):
        rows = built([(number % 50, number, 0) for number in range(3000)],
                     p=[(number * 2,) for number in range(3000)])
        # Each of the even b has as many links as there are even numbers from it on.
        cases = [("update t from x t\nwhere x.a <= 60\nset a to x.a + 1", ("up", "a"), 60 * sum(range(12, 62))),
                 ("insert t from x t\nsome p where q = x.b\nset a to 0\nset b to x.b + 2\nset c to 0", HEAP,
                  sum(range(1501, 3001))),
                 ("insert t from x t\nnone p where q = x.b\nset a to 0\nset b to x.b - 3\nset c to 0", HEAP, "endless"),
                 ("insert t from x t\nnone p where q = x.b\nset a to 0\nset b to x.b + 2\nset c to 0", HEAP, "endless"),
                 ("insert t from x t\nnone p where q = x.b\nset a to 0\nset b to x.b + 3\nset c to 0", HEAP, 1500)]
        for text, path, expected in cases:
            plan = planned(text, path)
            begun = time.time()
            total = raised_in_all(plan, rows)
            self.assertLess(time.time() - begun, 3)
            found = [links(plan, rows, number) for number in (0, 1, 2, 77, 2999)]
            self.assertLess(time.time() - begun, 6)
            for number, count in zip((0, 1, 2, 77, 2999), found):
                self.assertIn(slow_links(plan, rows, number), (count, None))
            self.assertEqual(total, expected)


if __name__ == "__main__":
    unittest.main()
