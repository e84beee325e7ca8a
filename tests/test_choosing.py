"""Points 35 and 3: the choice, and the paper that shows it."""

import random
import time
import unittest

from lively import lively_statement
from ownwake.choosing import choose
from ownwake.databases import Database
from ownwake.deciding import decide
from ownwake.plans import Plan, plans_of
from ownwake.ratios import Ratio
from ownwake.schemas import Schema
from ownwake.statements import Statement
from ownwake.suspects import suspects_of
from samples import is_plain
from test_costs import slow_cost
from test_deciding import DecideTest
from variants import slow_tree

SCHEMA = Schema(("p", ("q",), (), ()), ("t", ("a", "b"), ("a",), ()), ("u", ("c",), ("c",), ("c",)))
HEAP, DOWN = ("heap",), ("down", "a")


def ratios(*words):
    return tuple(Ratio(*(int(part) for part in word.split("/"))) for word in words)


def in_question(statement, hands):
    """The plans in question by the words of the document, ascending by their data."""
    plans = list(plans_of(statement, hands=hands))
    for plan in plans_of(statement, hands="one"):
        if (plan.hold == len(plan.order) or plan.keep) and plan.data not in [some.data for some in plans]:
            plans.append(plan)
    return sorted(plans, key=lambda plan: plan.data)


def drawn(source, statement):
    """Sizes and shares for a statement."""
    names = sorted({table for _, table in statement.references})
    sizes = tuple((name, source.choice((0, 1, 3, 20, 1000, 10 ** 6))) for name in names)
    count = len(statement.conditions) + len(statement.probes)
    return sizes, tuple(source.choice(ratios("0/1", "1/1", "1/3", "1/10", "9/10", "1/2")) for _ in range(count))


class ChooseTest(DecideTest):
    def check_choice(self, statement, sizes, shares, hands="one"):
        """Whether a choice and its paper are right as far as can be seen from them; return the plan."""
        before = (statement.parts, sizes, [str(share) for share in shares])
        begun = time.time()
        plan, paper = choose(statement, sizes, shares, hands=hands)
        self.assertLess(time.time() - begun, 3)
        self.assertEqual((statement.parts, sizes, [str(share) for share in shares]), before)
        self.assertIs(type(plan), Plan)
        self.assertEqual(plan.statement, statement)
        self.assertTrue(is_plain(paper))
        data, trees, cheaper = paper
        self.assertEqual(data, plan.data)
        ranked = sorted(in_question(statement, hands), key=lambda some: slow_cost(some, sizes, shares))
        count = [some.data for some in ranked].index(data)
        self.assertEqual([told for told, _, _ in cheaper], [some.data for some in ranked[:count]])
        self.check_trees(plan, trees)
        for some, (_, shown, weaving) in zip(ranked, cheaper):
            self.check_disturbed(some, ("disturbed", shown, weaving))
            self.assertLessEqual(len(Database(statement.schema, shown)[statement.table]), 4)
        again, second = choose(statement, sizes, shares, hands=hands)
        self.assertEqual((again, second), (plan, paper))
        return plan

    def check_trees(self, plan, trees):
        told = suspects_of(plan)
        self.assertEqual([suspect for suspect, _ in trees], [suspect for suspect, _ in told])
        for (_, tree), (_, clauses) in zip(trees, told):
            self.assertTrue(slow_tree(clauses, tree))


class Choices(ChooseTest):
    def chosen(self, text, sizes, shares, hands="one"):
        """The data of the plan that is chosen, without the hands, and how many plans cost less."""
        statement = Statement.read(SCHEMA, text)
        plan = self.check_choice(statement, sizes, shares, hands)
        return plan.data[:-1], len(choose(statement, sizes, shares, hands=hands)[1][2])

    def test_the_direction_that_is_safe(self):
        # Four plans cost the same; those downwards come first, and of them the one without marks.
        text = "update t from x t\nwhere x.a <= 5\nset a to x.a + 2"
        self.assertEqual(self.chosen(text, (("t", 9),), ratios("1/3")), ((("x",), (DOWN,), 0, (), False), 0))
        text = "insert t from x t\nwhere x.a <= 5\nset a to x.a - 2\nset b to 0"
        self.assertEqual(self.chosen(text, (("t", 9),), ratios("1/3")), ((("x",), (DOWN,), 0, ("x",), False), 1))
        # If all rows have the share, a heap costs the same, and comes later.
        text = "update t from x t\nwhere x.a <= 5\nset a to x.a - 2"
        self.assertEqual(self.chosen(text, (("t", 9),), ratios("1/1")), ((("x",), (DOWN,), 0, ("x",), False), 1))

    def test_by_name(self):
        statement = Statement.read(SCHEMA, "update t from x t\nwhere x.a <= 5\nset a to x.a + 2")
        found = choose(statement=statement, sizes=(("t", 9),), shares=ratios("1/3"), hands="one")
        self.assertEqual(found, choose(statement, (("t", 9),), ratios("1/3")))

    def test_marks_cost_nothing(self):
        # Both directions can meet a row again, but marked rows are skipped.
        text = "update t from x t\nwhere x.a <= 5\nset a to x.b"
        data, count = self.chosen(text, (("t", 9),), ratios("1/3"))
        self.assertEqual((data, count), ((("x",), (DOWN,), 0, ("x",), False), 1))

    def test_a_hold_where_nothing_else_will_do(self):
        text = "update t from x t, y t\nwhere x.a <= y.a\nset a to x.a + 1"
        data, count = self.chosen(text, (("t", 9),), ratios("1/3"))
        self.assertGreater(data[2] + data[4], 0)
        self.assertGreater(count, 4)

    def test_hold_costs_less_than_keep(self):
        text = "delete t from x t, y u\nwhere x.b <= y.c"
        for sizes in ((("t", 9), ("u", 2)), (("t", 2), ("u", 9)), (("t", 500), ("u", 500))):
            data, _ = self.chosen(text, sizes, ratios("1/3"))
            self.assertIs(data[4], False)

    def test_sizes_of_zero(self):
        # All plans cost the same, so the first one is the least by its data.
        text = "update t from x t, y t\nwhere x.a <= y.a\nset a to x.a + 1"
        for hands in ("one", "many"):
            data, count = self.chosen(text, (("t", 0),), ratios("1/3"), hands)
            self.assertEqual((data, count), ((("x", "y"), (DOWN, DOWN), 0, (), True), 1))
        data, count = self.chosen("update t from x t\nset b to 1", (("t", 0),), ())
        self.assertEqual((data, count), ((("x",), (HEAP,), 0, (), False), 0))

    def test_many_hands(self):
        text = "update t from x t\nwhere x.a <= 5\nset a to x.a + 2"
        statement = Statement.read(SCHEMA, text)
        plan = self.check_choice(statement, (("t", 9),), ratios("1/3"), "many")
        self.assertEqual(plan.data, (("x",), (DOWN,), 0, (), False, "many"))
        # Where none of the plans by many hands is safe, one hand holds all levels or keeps.
        two = Statement.read(SCHEMA, "update t from x t, y t\nwhere x.a <= y.a\nset a to x.a + 1")
        plan = self.check_choice(two, (("t", 9),), ratios("1/3"), "many")
        self.assertEqual(plan.hands, "one")
        self.assertTrue(plan.keep or plan.hold == 2)
        _, (_, _, cheaper) = choose(two, (("t", 9),), ratios("1/3"), hands="many")
        self.assertEqual({data[-1] for data, _, _ in cheaper}, {"many"})

    def test_each_plan_once(self):
        text = "update t from x t, y t\nwhere x.a <= y.a\nset a to x.a + 1"
        for hands in ("one", "many"):
            statement = Statement.read(SCHEMA, text)
            _, (data, _, cheaper) = choose(statement, (("t", 90),), ratios("1/3"), hands=hands)
            told = [data, *[some for some, _, _ in cheaper]]
            self.assertEqual(len(set(told)), len(told))

    def test_sizes_that_are_some_times_as_great(self):
        # The order of costs stays if all sizes of one table are multiplied.
        text = "update t from x t\nwhere x.a <= 5\nwhere x.b != 2\nset a to x.b"
        statement = Statement.read(SCHEMA, text)
        found = [choose(statement, (("t", size),), ratios("1/3", "9/10")) for size in (1, 7, 10 ** 12)]
        self.assertEqual(found[0], found[1])
        self.assertEqual(found[0], found[2])

    def test_shares_of_zero_and_one(self):
        text = "update t from x t, y u\nwhere x.a <= y.c\nset a to x.a + 1"
        statement = Statement.read(SCHEMA, text)
        for share in ("0/1", "1/1"):
            for sizes in ((("t", 0), ("u", 0)), (("t", 5), ("u", 0)), (("t", 0), ("u", 5)), (("t", 5), ("u", 5))):
                for hands in ("one", "many"):
                    self.check_choice(statement, sizes, ratios(share), hands)

    def test_the_smaller_table_first(self):
        text = "insert p from x t, y u\nwhere y.c != x.b\nset q to 1"
        for sizes, order in [((("t", 2), ("u", 100)), ("x", "y")), ((("t", 100), ("u", 2)), ("y", "x")),
                             ((("t", 5), ("u", 5)), ("x", "y"))]:
            data, count = self.chosen(text, sizes, ratios("9/10"))
            self.assertEqual((data, count), ((order, (HEAP, HEAP), 0, (), False), 0))

    def test_statements_with_a_probe(self):
        for word in ("some", "none"):
            text = f"update t from x t\nwhere x.a <= 5\n{word} p where q = x.a\nset a to x.a + 2"
            for hands in ("one", "many"):
                self.check_choice(Statement.read(SCHEMA, text), (("t", 40),), ratios("1/3", "1/2"), hands)

    def test_random_statements(self):
        source = random.Random(35)
        seen = []
        for _ in range(90):
            statement = lively_statement(source, probes=0.3, keyed=0.1, conditions=source.choice((0, 1, 2, 2, 3)))
            sizes, shares = drawn(source, statement)
            for hands in ("one", "many"):
                plan = self.check_choice(statement, sizes, shares, hands)
                seen.append((plan.hands, plan.hold, plan.keep, plan.marks != ()))
                self.assertEqual(decide(plan)[0], "sound")
        for part in [("one", 0, False, False), ("many", 0, False, False), ("one", 0, True, False), ("one", 0, False, True)]:
            self.assertIn(part, seen)
        self.assertTrue(any(hold > 0 for _, hold, _, _ in seen))


class GreatStatements(ChooseTest):
    def test_time(self):
        source = random.Random(36)
        columns = ("a", "b", "c")
        for _ in range(25):
            tables = [(name, columns, (source.choice(columns),), tuple(c for c in columns if source.random() < 0.3))
                      for name in "tu"]
            schema = Schema(*tables, ("p", columns, (), ()))
            kind = source.choice(("update", "insert", "delete"))
            cells = [(alias, column) for alias in "xy" for column in columns]
            conditions = tuple((source.choice(cells), source.choice(("!=", "=", "<=")), source.choice([None, *cells]),
                                source.randint(-10 ** 9, 10 ** 9)) for _ in range(3))
            own = tuple((column, "<=", source.choice(columns), source.randint(-2, 2)) for column in ("a", "b"))
            probe = (source.choice(("some", "none")), "p", own, ("c", source.choice(("=", "<=", ">=")), source.choice(cells), 1))
            sources = [None, *[cell for cell in cells if kind == "insert" or cell[0] == "x"]]
            settings = tuple((column, source.choice(sources), source.randint(-2, 2)) for column in columns)
            statement = Statement(schema, kind, "t", (("x", "t"), ("y", source.choice("tu"))), conditions=conditions,
                                  probes=(probe,), settings=settings if kind != "delete" else ())
            sizes, shares = drawn(source, statement)
            for hands in ("one", "many"):
                begun = time.time()
                choose(statement, sizes, shares, hands=hands)
                choose(statement, tuple((name, 0) for name, _ in sizes), shares, hands=hands)
                self.assertLess(time.time() - begun, 4)


if __name__ == "__main__":
    unittest.main()
