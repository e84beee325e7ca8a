"""Points 28 and 3: plans are found sound, with trees, or disturbed, with a database and a weaving."""

import itertools
import random
import time
import unittest

from lively import lively_database, lively_statement
from ownwake.databases import Database
from ownwake.deciding import decide
from ownwake.exhibits import exhibit
from ownwake.lives import LiveRun
from ownwake.plans import Plan, plans_of
from ownwake.schemas import Schema
from ownwake.soundchecks import disturbed_holds, sound_holds
from ownwake.statements import Statement
from ownwake.suspects import suspects_of
from ownwake.verdicts import verdict
from ownwake.weavings import find_weaving
from samples import SlowHands, SlowRun, is_plain, slow_verdict
from variants import clause, side, slow_tree

DISTURBED = ("extra", "again", "changed", "missing")
SMALL = Schema(("p", ("q",), (), ()), ("t", ("a",), ("a",), ()), ("u", ("c",), (), ()))
WIDE = Schema(("t", ("a", "b"), ("a",), ()))
KEYED = Schema(("t", ("a",), ("a",), ("a",)), ("u", ("c",), (), ("c",)))


class DecideTest(unittest.TestCase):
    def check(self, plan):
        """Whether what is decided is right as far as it can be seen from itself; return its word."""
        found = decide(plan)
        self.assertTrue(is_plain(found))
        if found[0] == "sound":
            self.assertEqual(len(found), 2)
            told = suspects_of(plan)
            self.assertEqual([suspect for suspect, _ in found[1]], [suspect for suspect, _ in told])
            for (_, tree), (_, clauses) in zip(found[1], told):
                self.assertTrue(slow_tree(clauses, tree))
            self.assertIs(sound_holds(plan, found[1]), True)
        else:
            self.check_disturbed(plan, found)
        return found[0]

    def check_disturbed(self, plan, found):
        word, data, weaving = found
        self.assertEqual(word, "disturbed")
        statement = plan.statement
        database = Database(statement.schema, data)
        self.assertEqual(database.data, data)
        for name, _, rows in data:
            most = 12 if name in [probe[1] for probe in statement.probes] else 4 if name == statement.table else 2
            self.assertLessEqual(len(rows), most if name in self.named(statement) else 0)
        run = LiveRun(plan, database)
        self.assertEqual(run.play(weaving), len(weaving))
        self.assertIn(verdict(run)[0], DISTURBED)
        self.assertIs(disturbed_holds(plan, (data, weaving)), True)
        # By the rules of a step, written for plainness, it is so, too.
        slow = SlowHands(plan, database) if plan.hands == "many" else SlowRun(plan, database, len(weaving))
        if plan.hands == "many":
            self.assertNotIn(None, [slow.step(hand) for hand in weaving])
            self.assertIn(slow_verdict(slow, slow.is_idle())[0], DISTURBED)
        else:
            self.assertEqual(set(weaving), {0})
            self.assertIn(slow_verdict(slow, slow.by_one_hand())[0], DISTURBED)

    def named(self, statement):
        return [table for _, table in statement.references] + [some[1] for some in statement.probes] + [statement.table]


def all_databases(schema, rows, values):
    """All databases of a schema with at most so many rows by table, and values from 0 to less than a number."""
    parts = []
    for name, columns, _, keys in schema.tables:
        choices = []
        for count in range(rows.get(name, 0) + 1):
            for told in itertools.product(itertools.product(range(values), repeat=len(columns)), repeat=count):
                if all(len({some[columns.index(key)] for some in told}) == count for key in keys):
                    choices.append((name, count, tuple(enumerate(told))))
        parts.append(choices)
    for data in itertools.product(*parts):
        yield Database(schema, data)


class Exhibits(unittest.TestCase):
    TEXT = "update t from x t, w t\nwhere x.a <= w.a\nnone p where q = x.a\nset a to x.a + 1"

    def shown(self, clauses, **values):
        """The data that values tell; unknowns are written as in the tests of suspects."""
        plan = Plan(Statement.read(SMALL, self.TEXT))
        pairs = tuple((side(name.replace("_", ".").replace("N", "#")), value) for name, value in values.items())
        return exhibit(plan, {"written": 2, "other": 0}, clauses, pairs).data

    def test_numbers_are_shifted(self):
        data = self.shown((), w0N=-7, w0a=5, w1N=-9, w1a=6)
        self.assertEqual(data, (("p", 0, ()), ("t", 3, ((0, (6,)), (2, (5,)))), ("u", 0, ())))
        data = self.shown((), w0N=10 ** 13, w1N=10 ** 13 + 1, w0a=1)
        self.assertEqual(data[1], ("t", 2, ((0, (1,)), (1, (0,)))))

    def test_rows_of_probes(self):
        # Of the rows of matches that must fail, only those are taken by which they do.
        further = clause("f1.0.1q - 0 <= 4, 0 - f1.0.1q <= -4", "w0a - w1a <= 0")
        sure = clause("f0q - w0a <= 0")
        values = {"w0a": 3, "w1a": 1, "w0N": 0, "w1N": 1, "f0q": 2}
        data = self.shown((further, sure), f1_0_1q=4, **values)
        self.assertEqual(data[0], ("p", 2, ((0, (2,)), (1, (4,)))))
        for q in (3, 5):
            data = self.shown((further, sure), f1_0_1q=q, **values)
            self.assertEqual(data[0], ("p", 1, ((0, (2,)),)))
        self.assertEqual(self.shown((further,), f1_0_1q=3, **values)[0], ("p", 0, ()))


class AgainstAllSmallDatabases(DecideTest):
    def is_ever_disturbed(self, plan, databases):
        """Whether some run of a plan on one of these databases is disturbed."""
        for database in databases:
            if plan.hands == "many":
                if find_weaving(plan, database, hands=2, limit=24) is not None:
                    return True
                continue
            run = LiveRun(plan, database)
            run.go(60)
            if verdict(run)[0] in DISTURBED:
                return True
        return False

    def compare_plans(self, schema, texts, databases, most=6):
        """Whether plans that are called sound are disturbed on none of these; others show where they are."""
        source = random.Random(280)
        words = []
        for text in texts:
            statement = Statement.read(schema, text)
            plans = [*plans_of(statement), *plans_of(statement, hands="many")]
            safe = [plan for plan in plans if plan.keep or plan.hold == len(plan.order)]
            for plan in safe:
                self.assertEqual(decide(plan), ("sound", ()))
            plans = [plan for plan in plans if plan not in safe]
            for plan in source.sample(plans, min(most, len(plans))):
                words.append(self.check(plan))
                if words[-1] == "sound":
                    self.assertFalse(self.is_ever_disturbed(plan, databases), (text, plan.data))
        self.assertEqual(set(words), {"sound", "disturbed"})

    def test_one_reference(self):
        texts = [f"update t from x t{condition}\nset a to {setting}"
                 for condition in ("\nwhere x.a <= 1", "\nwhere x.a != 1\nwhere x.a <= 2", "")
                 for setting in ("x.a", "x.a + 1", "x.a - 1", "1", "2")]
        texts += [f"insert t from x {name}{condition}\nset a to {setting}"
                  for name, column in (("t", "a"), ("u", "c")) for condition in (f"\nwhere x.{column} <= 1", "")
                  for setting in (f"x.{column} + 1", f"x.{column} - 1", f"x.{column}", "0", "2")]
        texts += ["delete t from x t", "delete t from x t\nwhere x.a <= 1"]
        databases = list(all_databases(SMALL, {"t": 3, "u": 1}, 3))
        self.compare_plans(SMALL, texts, databases)

    def test_one_reference_and_two_columns(self):
        texts = ["update t from x t\nwhere x.a <= x.b\nset a to x.a + 1", "update t from x t\nwhere x.a <= 1\nset a to x.b",
                 "update t from x t\nwhere x.a <= x.b\nset a to x.b\nset b to x.a",
                 "update t from x t\nwhere x.a = 1\nset a to 1\nset b to 2", "update t from x t\nwhere x.a <= 1\nset b to 5",
                 "insert t from x t\nwhere x.a <= 1\nset a to x.b\nset b to x.a",
                 "insert t from x t\nwhere x.a <= x.b - 1\nset a to x.b - 1\nset b to x.b"]
        self.compare_plans(WIDE, texts, list(all_databases(WIDE, {"t": 2}, 3)))

    def test_two_tables(self):
        texts = ["delete t from x t, y u\nwhere x.a <= y.c", "update t from x t, y u\nwhere x.a <= y.c\nset a to x.a + 1",
                 "update t from x t, y u\nwhere x.a = y.c\nset a to x.a + 1",
                 "update t from x t, y u\nwhere x.a <= 1\nwhere y.c <= 0\nset a to 1",
                 "insert t from x t, y u\nwhere x.a <= y.c\nset a to y.c + 1",
                 "insert t from x u, y t\nwhere y.a <= 1\nset a to x.c",
                 "insert u from x t, y u\nwhere x.a = y.c\nset c to x.a + 1"]
        self.compare_plans(SMALL, texts, list(all_databases(SMALL, {"t": 2, "u": 2}, 3)))

    def test_one_table_twice(self):
        texts = ["update t from x t, y t\nwhere x.a <= y.a - 1\nset a to x.a + 1",
                 "update t from x t, y t\nwhere x.a = y.a\nset a to x.a - 1",
                 "update t from x t, y t\nwhere y.a <= x.a - 1\nset a to 0", "delete t from x t, y t\nwhere x.a <= y.a - 1",
                 "delete t from x t, y t\nwhere x.a = y.a", "insert t from x t, y t\nwhere x.a <= y.a - 1\nset a to x.a + 1",
                 "insert t from x t, y t\nwhere x.a <= 0\nwhere y.a <= 1\nset a to 1"]
        self.compare_plans(SMALL, texts, list(all_databases(SMALL, {"t": 3}, 3)))

    def test_probes(self):
        texts = ["update t from x t\nwhere x.a <= 2\nsome p where q = x.a\nset a to x.a + 1",
                 "update t from x t\nwhere x.a <= 2\nnone p where q >= x.a\nset a to x.a + 1",
                 "insert t from x t\nsome p where q >= x.a and q <= 0\nset a to x.a + 1",
                 "insert t from x t\nsome p where q >= x.a and q <= 0\nset a to 1",
                 "insert t from x t\nnone p where q <= x.a and q <= 0\nset a to 2"]
        self.compare_plans(SMALL, texts, list(all_databases(SMALL, {"t": 2, "p": 2}, 3)))

    def test_keys(self):
        texts = ["update t from x t, y t\nwhere x.a <= y.a\nset a to x.a + 1",
                 "update t from x t, y t\nwhere x.a = y.a\nset a to x.a + 1", "delete t from x t, y u\nwhere x.a = y.c",
                 "delete t from x t, y t\nwhere x.a = y.a", "update t from x t, y u\nwhere x.a = y.c\nset a to x.a + 2"]
        self.compare_plans(KEYED, texts, list(all_databases(KEYED, {"t": 3, "u": 2}, 3)))


class AgainstRuns(DecideTest):
    def test_random_plans(self):
        source = random.Random(28)
        words = []
        for _ in range(250):
            statement = lively_statement(source, keyed=0.2, probes=0.4, conditions=source.choice((0, 1, 2, 3, 5)))
            for hands in ("one", "many"):
                plans = list(plans_of(statement, hands=hands))
                for plan in source.sample(plans, min(4, len(plans))):
                    words.append((hands, self.check(plan)))
        for hands in ("one", "many"):
            self.assertGreater(words.count((hands, "disturbed")), 100)

    def test_sound_plans_are_never_disturbed(self):
        source = random.Random(281)
        runs = 0
        for _ in range(300):
            statement = lively_statement(source, probes=0.4, keyed=0.1, conditions=source.choice((1, 2, 2, 3)))
            for hands in ("one", "many"):
                plans = [plan for plan in plans_of(statement, hands=hands) if not plan.keep and plan.hold < len(plan.order)]
                for plan in source.sample(plans, min(4, len(plans))):
                    if decide(plan)[0] == "sound" and suspects_of(plan) != ():
                        runs += 1
                        self.never_disturbed(source, plan)
        self.assertGreater(runs, 40)

    def never_disturbed(self, source, plan):
        for _ in range(8):
            database = lively_database(source, plan.statement.schema, spread=1, least=2)
            if plan.hands == "many":
                self.assertIsNone(find_weaving(plan, database, hands=3, limit=20))
            else:
                run = LiveRun(plan, database)
                self.assertTrue(run.go(400))
                self.assertEqual(verdict(run), ("plain",))

    def test_great_constants(self):
        big = 10 ** 9
        for hands in ("one", "many"):
            for text in (f"update t from x t\nwhere x.a <= {big}\nset a to x.a + {big}",
                         f"update t from x t, y u\nwhere x.a <= y.c - {big}\nwhere y.c <= {-big}\nset a to x.a + {big}",
                         f"insert t from x t, y u\nwhere x.a <= y.c - {big}\nset a to y.c - {big}"):
                for plan in plans_of(Statement.read(SMALL, text), hands=hands):
                    self.check(plan)

    def test_the_greatest_statements(self):
        source = random.Random(282)
        columns = ("a", "b", "c")
        schema = Schema(*[(name, columns, columns, columns) for name in "tu"], *[(name, columns, (), ()) for name in "pr"])
        for _ in range(60):
            statement = self.great_statement(source, schema, columns)
            for hands in ("one", "many"):
                plans = list(plans_of(statement, hands=hands))
                for plan in source.sample(plans, 3):
                    begun = time.time()
                    self.check(plan)
                    self.assertLess(time.time() - begun, 5)

    def great_statement(self, source, schema, columns):
        """A statement with as many conditions, probes and own conditions as there may be."""
        kind = source.choice(("update", "update", "insert", "delete"))
        references = (("x", "t"), ("y", source.choice("ttu")))
        cells = [(alias, column) for alias in "xy" for column in columns]
        conditions = tuple((source.choice(cells), source.choice(("!=", "=", "<=")), source.choice(cells),
                            source.randint(-2, 2)) for _ in range(5))
        probes = []
        for name in "pr":
            own = tuple((source.choice(columns), source.choice(("<=", "=")), source.choice((None, *columns)),
                         source.randint(-2, 2)) for _ in range(2))
            link = (source.choice(columns), source.choice(("=", "<=", ">=")), source.choice(cells), source.randint(-2, 2))
            probes.append((source.choice(("some", "none")), name, own, link))
        settings = tuple((column, source.choice([None, *[cell for cell in cells if kind == "insert" or cell[0] == "x"]]),
                          source.randint(-2, 2)) for column in columns if kind != "delete")
        return Statement(schema, kind, "t", references, conditions=conditions, probes=tuple(probes), settings=settings)


if __name__ == "__main__":
    unittest.main()
