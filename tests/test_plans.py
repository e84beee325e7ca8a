"""Point 14: plans, and all plans of a statement."""

import itertools
import random
import unittest

from ownwake.errors import InvalidPlan
from ownwake.plans import Plan, plans_of
from ownwake.schemas import Schema
from ownwake.statements import Statement
from samples import ODD, is_plain, random_schema, random_statement

SCHEMA = Schema(("t", ("a", "b", "c"), ("a", "b", "c"), ()), ("u", ("a", "d"), ("d",), ()))
A, B, C, D = ("x", "a"), ("x", "b"), ("x", "c"), ("y", "d")
ONE = Statement(SCHEMA, "update", "t", (("x", "t"),), settings=(("a", A, 1),),
                conditions=((A, "<=", None, 5), (B, "!=", None, 2)))
TWO = Statement(SCHEMA, "update", "t", (("x", "t"), ("y", "u")), settings=(("a", A, 1),),
                conditions=((B, "<=", D, 5), (A, "=", None, 2)))
SAME = Statement(SCHEMA, "update", "t", (("x", "t"), ("w", "t")), settings=(("a", A, 1),))
GONE = Statement(SCHEMA, "delete", "t", (("x", "t"), ("w", "t")), conditions=((("w", "c"), "=", C, 0),))
MADE = Statement(SCHEMA, "insert", "u", (("x", "u"), ("y", "t")), settings=(("a", None, 1), ("d", None, 1)))
HEAP = ("heap",)
PARTS = ("order", "paths", "hold", "marks", "keep", "hands")


def by_parts(statement, order=None, paths=None, hold=0, marks=(), keep=False, hands="one"):
    return Plan(statement, order, paths, hold=hold, marks=marks, keep=keep, hands=hands)


class Plans(unittest.TestCase):
    def wrong(self, part, statement, **parts):
        with self.assertRaises(InvalidPlan, msg=parts) as caught:
            by_parts(statement, **parts)
        self.assertEqual(caught.exception.part, part, parts)

    def test_all_parts(self):
        data = (("y", "x"), (("down", "d"), ("up", "a")), 1, ("x",), False, "one")
        plan = Plan(TWO, *data[:2], hold=1, marks=("x",), keep=False, hands="one")
        self.assertEqual(plan.data, data)
        self.assertEqual((plan.order, plan.paths, plan.hold, plan.marks, plan.keep, plan.hands), data)
        self.assertIs(plan.keep, False)
        self.assertEqual(plan.statement, TWO)
        self.assertTrue(is_plain(plan.data))
        self.assertEqual(Plan(statement=TWO, order=data[0], paths=data[1], hold=1, marks=("x",)), plan)

    def test_parts_left_out(self):
        self.assertEqual(Plan(TWO).data, (("x", "y"), (HEAP, HEAP), 0, (), False, "one"))
        self.assertEqual(Plan(ONE).data, (("x",), (HEAP,), 0, (), False, "one"))
        self.assertEqual(Plan(TWO, ("y", "x")).data, (("y", "x"), (HEAP, HEAP), 0, (), False, "one"))
        self.assertEqual(Plan(TWO, None, (("up", "a"), HEAP)).paths, (("up", "a"), HEAP))
        self.assertEqual(Plan(TWO, keep=True).data, (("x", "y"), (HEAP, HEAP), 0, (), True, "one"))
        self.assertEqual(Plan(TWO, hands="many").data, (("x", "y"), (HEAP, HEAP), 0, (), False, "many"))

    def test_orders(self):
        for order in ODD + [
                ("x",), ("y",), ("x", "x"), ("x", "y", "x"), ("x", "z"), ["x", "y"], "xy", ("t", "u"), ("x", None),
                ("x", ["y"]), (("x", "t"), ("y", "u")), ("X", "y"), {"x": 0, "y": 1}]:
            if order is not None:
                self.wrong("order", TWO, order=order)
        self.wrong("order", ONE, order=("x", "y"))
        self.wrong("order", ONE, order=("t",))
        self.assertEqual(by_parts(TWO, order=("x", "y")).order, ("x", "y"))

    def test_paths(self):
        up = ("up", "a")
        for paths in ODD + [
                (HEAP,), (HEAP, HEAP, HEAP), [HEAP, HEAP], HEAP, (HEAP, "heap"), ("heap", "heap"), (["heap"], HEAP),
                (HEAP, None), (("heap", "a"), HEAP), (("up",), HEAP), (("up", "a", "b"), HEAP), (["up", "a"], HEAP),
                (("Up", "a"), HEAP), (("index", "a"), HEAP), (("up", None), HEAP), (("up", ["a"]), HEAP),
                (("up", 0), HEAP), (("up", "z"), HEAP), (("up", "d"), HEAP), (HEAP, up), (up, up), (HEAP, ("up", "a")),
                (("up", ("x", "a")), HEAP), ((), HEAP), (("up", "c"), HEAP), (("down", "c"), HEAP)]:
            if paths is not None:
                self.wrong("paths", TWO, paths=paths)
        for path, other in itertools.product(
                [HEAP, up, ("down", "a"), ("up", "b"), ("down", "b")], [HEAP, ("up", "d"), ("down", "d")]):
            self.assertEqual(by_parts(TWO, paths=(path, other)).paths, (path, other))
            self.assertEqual(by_parts(TWO, order=("y", "x"), paths=(other, path)).paths, (other, path))
            if path != HEAP or other != HEAP:
                self.wrong("paths", TWO, order=("y", "x"), paths=(path, other))

    def test_paths_need_an_index_and_a_condition(self):
        schema = Schema(("t", ("a", "b"), ("a",), ()))
        for sign, y, good in [("<=", None, "a"), ("=", None, "a"), ("!=", None, ""), ("<=", B, "a"), ("=", A, "a"),
                              ("!=", B, "")]:
            statement = Statement(schema, "delete", "t", (("x", "t"),), conditions=((A, sign, y, 1),))
            for column in "ab":
                if column in good:
                    self.assertEqual(Plan(statement, None, (("up", column),)).paths, (("up", column),))
                else:
                    self.wrong("paths", statement, paths=(("up", column),))
        # The column may stand on the right side; a condition of the other reference's column is not enough.
        statement = Statement(schema, "delete", "t", (("x", "t"), ("y", "t")), conditions=((B, "<=", A, 1),))
        self.assertEqual(Plan(statement, None, (("down", "a"), HEAP)).paths, (("down", "a"), HEAP))
        self.wrong("paths", statement, paths=(HEAP, ("down", "a")))
        self.wrong("paths", statement, paths=(("up", "b"), HEAP))
        self.wrong("paths", Statement(schema, "delete", "t", (("x", "t"),)), paths=(("up", "a"),))

    def test_holds(self):
        for hold in ODD + [3, -1, True, False, "1", (1,)]:
            if not (type(hold) is int and 0 <= hold <= 2):
                self.wrong("hold", TWO, hold=hold)
        self.wrong("hold", ONE, hold=2)
        self.assertEqual([by_parts(TWO, hold=hold).hold for hold in range(3)], [0, 1, 2])

    def test_marks(self):
        for marks in ODD + [("y",), ("x", "y"), ("x", "x"), ["x"], "x", ("z",), (None,), (["x"],), {"x": 1}, ("t",)]:
            if marks != ():
                self.wrong("marks", TWO, marks=marks)
        self.assertEqual(by_parts(SAME, marks=("w", "x")).marks, ("w", "x"))
        self.assertEqual(by_parts(SAME, order=("x", "w"), marks=("w",)).marks, ("w",))
        self.wrong("marks", SAME, marks=("x", "w"))
        self.wrong("marks", GONE, marks=("x",))
        self.wrong("marks", GONE, marks=("w",))
        # The marks of an insert are those of references to the table that it writes.
        self.assertEqual(by_parts(MADE, marks=("x",)).marks, ("x",))
        self.wrong("marks", MADE, marks=("y",))

    def test_keep(self):
        for keep in ODD + [1, 0, "True", None, (True,)]:
            if keep is not True and keep is not False:
                self.wrong("keep", TWO, keep=keep)
        self.wrong("keep", TWO, keep=True, hold=1)
        self.wrong("keep", TWO, keep=True, marks=("x",))
        self.wrong("keep", TWO, keep=True, hold=2, marks=("x",), hands="many")
        self.assertIs(by_parts(TWO, keep=True).keep, True)

    def test_hands(self):
        for hands in ODD + ["two", "One", ("one",), ["many"], None, 1]:
            self.wrong("hands", TWO, hands=hands)
        self.wrong("hands", TWO, hands="many", hold=1)
        self.wrong("hands", TWO, hands="many", keep=True)
        self.assertEqual(by_parts(TWO, hands="many", marks=("x",)).data[2:], (0, ("x",), False, "many"))

    def test_the_first_wrong_part(self):
        for first in range(6):
            for last in range(first, 6):
                self.wrong(PARTS[first], TWO, **{PARTS[at]: [] for at in (first, last)})

    def test_equality(self):
        plan = Plan(TWO, None, (("up", "a"), HEAP))
        self.assertEqual(plan, Plan(TWO, ("x", "y"), (("up", "a"), HEAP)))
        self.assertNotEqual(plan, Plan(TWO))
        self.assertNotEqual(plan, Plan(TWO, None, (("up", "a"), HEAP), marks=("x",)))
        told = Statement(SCHEMA, *TWO.parts[:3], conditions=TWO.conditions, settings=TWO.settings, told=(A,))
        self.assertNotEqual(plan, Plan(told, None, (("up", "a"), HEAP)))
        for thing in ODD + [plan.data, TWO, plan.lines]:
            self.assertIs(plan == thing, False)

    def test_turned(self):
        plan = Plan(TWO, ("y", "x"), (("up", "d"), ("down", "b")), hold=1, marks=("x",))
        self.assertEqual(plan.turned("x").data, (("y", "x"), (("up", "d"), ("up", "b")), 1, ("x",), False, "one"))
        self.assertEqual(plan.turned(alias="y").data, (("y", "x"), (("down", "d"), ("down", "b")), *plan.data[2:]))
        self.assertEqual(plan.turned("x").turned("x"), plan)
        self.assertEqual(plan.data[1], (("up", "d"), ("down", "b")))
        self.assertEqual(Plan(TWO).turned("x"), Plan(TWO))
        self.assertEqual(Plan(TWO, keep=True).turned("y"), Plan(TWO, keep=True))
        many = Plan(ONE, None, (("down", "a"),), marks=("x",), hands="many")
        self.assertEqual(many.turned("x"), Plan(ONE, None, (("up", "a"),), marks=("x",), hands="many"))

    def test_lines(self):
        up, down = ("up", "a"), ("down", "d")
        for plan, lines in [
                (Plan(ONE), ("1: scan x heap",)),
                (Plan(ONE, None, (up,), hold=1, marks=("x",)), ("1: scan x up a marked", "hold")),
                (Plan(TWO, ("y", "x"), (down, up)), ("1: scan y down d", "2: scan x up a")),
                (Plan(TWO, None, (up, down), hold=1, marks=("x",)),
                 ("1: scan x up a marked", "hold", "2: scan y down d")),
                (Plan(TWO, hold=2), ("1: scan x heap", "2: scan y heap", "hold")),
                (Plan(TWO, keep=True), ("1: scan x heap", "2: scan y heap", "keep")),
                (Plan(SAME, ("w", "x"), marks=("w", "x"), hands="many"),
                 ("1: scan w heap marked", "2: scan x heap marked", "many hands"))]:
            self.assertEqual(plan.lines, lines)
            self.assertTrue(is_plain(plan.lines))


class AllPlans(unittest.TestCase):
    def test_one_reference(self):
        self.assertEqual([plan.data for plan in plans_of(ONE)], [
            (("x",), (path,), *rest, "one") for path in [("down", "a"), HEAP, ("up", "a")]
            for rest in [(0, (), False), (0, (), True), (0, ("x",), False), (1, (), False), (1, ("x",), False)]])
        self.assertEqual([plan.data for plan in plans_of(ONE, hands="many")], [
            (("x",), (path,), 0, marks, False, "many") for path in [("down", "a"), HEAP, ("up", "a")]
            for marks in [(), ("x",)]])

    def test_two_references(self):
        found = list(plans_of(GONE))
        self.assertEqual(len(found), 2 * 3 * 3 * 4)
        self.assertEqual(len(list(plans_of(GONE, hands="many"))), 2 * 3 * 3)
        self.assertEqual(len(list(plans_of(SAME))), 2 * (3 * 4 + 1))
        self.assertEqual(len(list(plans_of(SAME, hands="many"))), 2 * 4)
        self.assertEqual([plan.data[0] for plan in found[:36]], [("w", "x")] * 36)

    def test_all_by_trying(self):
        source = random.Random(14)
        for _ in range(25):
            schema = random_schema(source)
            statement = random_statement(source, schema)
            for hands in ("one", "many"):
                expected = sorted(self.tried(statement, hands))
                found = list(plans_of(statement, hands=hands))
                self.assertEqual([plan.data for plan in found], expected)
                self.assertTrue(all(plan.statement == statement for plan in found))

    def tried(self, statement, hands):
        """The data of all plans with these hands, by trying every choice of parts."""
        aliases = [alias for alias, _ in statement.references]
        paths = [HEAP] + [(word, column) for word in ("up", "down") for column in "abc"]
        subsets = [part for k in range(len(aliases) + 1) for part in itertools.combinations(sorted(aliases), k)]
        for order in itertools.permutations(aliases):
            for chosen in itertools.product(paths, repeat=len(aliases)):
                if not self.accepted(statement, order=order, paths=chosen):
                    continue
                for hold, marks, keep in itertools.product(range(3), subsets, (False, True)):
                    parts = {"order": order, "paths": chosen, "hold": hold, "marks": marks, "keep": keep, "hands": hands}
                    if self.accepted(statement, **parts):
                        yield tuple(parts.values())

    def accepted(self, statement, **parts):
        try:
            by_parts(statement, **parts)
        except InvalidPlan:
            return False
        return True

    def test_it_is_gone_through_in_steps(self):
        begun = plans_of(ONE)
        self.assertIs(iter(begun), begun)
        self.assertEqual(next(begun).data[1], (("down", "a"),))
        self.assertEqual(len(list(plans_of(statement=ONE, hands="one"))), 15)
        self.assertEqual(next(begun).keep, True)


if __name__ == "__main__":
    unittest.main()
