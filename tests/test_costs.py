"""Point 34: what a plan costs."""

import fractions
import random
import unittest

from lively import lively_statement
from ownwake.costs import cost
from ownwake.plans import Plan, plans_of
from ownwake.ratios import Ratio
from ownwake.schemas import Schema
from ownwake.statements import Statement

SCHEMA = Schema(("p", ("q",), (), ()), ("r", ("m", "n"), (), ()), ("t", ("a", "b"), ("a", "b"), ()),
                ("u", ("c",), ("c",), ()))
HEAP, UP, DOWN = ("heap",), ("up", "a"), ("down", "a")


def planned(text, order=None, paths=None, **parts):
    return Plan(Statement.read(SCHEMA, text), order, paths, **parts)


def ratios(*words):
    return tuple(Ratio(*(int(part) for part in word.split("/"))) for word in words)


def slow_cost(plan, sizes, shares):
    """The cost by the words of the document, as a fraction of Python's own."""
    statement, order = plan.statement, plan.order
    tables, rows = dict(statement.references), dict(sizes)
    shares = [fractions.Fraction(some.top, some.bottom) for some in shares]
    fetched, passed = {}, {}
    for level in range(1, len(order) + 1):
        bound = tested = fractions.Fraction(1)
        for (x, sign, y, _), share in zip(statement.conditions, shares):
            aliases = [cell[0] for cell in (x, y) if cell is not None]
            if max(order.index(alias) + 1 for alias in aliases) != level:
                continue
            path, own = plan.paths[level - 1], order[level - 1]
            bounds = False
            if path != HEAP and sign in ("<=", "="):
                for one, other in ((x, y), (y, x)):
                    if one == (own, path[1]) and (other is None or other[0] != own):
                        bounds = True
            if bounds:
                bound *= share
            else:
                tested *= share
        for probe, share in zip(statement.probes, shares[len(statement.conditions):]):
            if order.index(probe[3][2][0]) + 1 == level:
                tested *= share
        before = passed[level - 1] if level > 1 else 1
        fetched[level] = before * rows[tables[order[level - 1]]] * bound
        passed[level] = fetched[level] * tested
    total = sum(fetched.values())
    if plan.hold > 0:
        total += passed[plan.hold]
    if plan.keep:
        total += 2 * passed[len(order)]
    return total


class Costs(unittest.TestCase):
    def check(self, plan, sizes, shares, expected):
        before = (sizes, [str(share) for share in shares])
        found = cost(plan, sizes, shares)
        self.assertIs(type(found), Ratio)
        self.assertEqual(str(found), expected)
        self.assertEqual(str(slow_cost(plan, sizes, shares)), expected)
        self.assertEqual((sizes, [str(share) for share in shares]), before)
        self.assertEqual(cost(plan=plan, sizes=sizes, shares=shares), found)
        for alias in plan.order:
            self.assertEqual(cost(plan.turned(alias), sizes, shares), found)

    def test_one_reference(self):
        text = "update t from x t\nwhere x.a <= 5\nwhere x.b != 3\nset a to 1"
        sizes, shares = (("t", 30),), ratios("1/3", "9/10")
        self.check(planned(text), sizes, shares, "30")
        self.check(planned(text, None, (UP,)), sizes, shares, "10")
        self.check(planned(text, None, (UP,), marks=("x",)), sizes, shares, "10")
        self.check(planned(text, None, (UP,), hands="many"), sizes, shares, "10")
        self.check(planned(text, None, (UP,), hold=1), sizes, shares, "19")
        self.check(planned(text, None, (UP,), hold=1, marks=("x",)), sizes, shares, "19")
        self.check(planned(text, None, (UP,), keep=True), sizes, shares, "28")
        self.check(planned(text, hold=1), sizes, shares, "39")
        self.check(planned(text, keep=True), sizes, shares, "48")
        self.check(planned(text, marks=("x",), hands="many"), sizes, shares, "30")

    def test_what_bounds_a_scan(self):
        sizes, (share,) = (("t", 30),), ratios("1/3")
        for text in ("x.a <= 5", "x.a = 5"):
            self.check(planned(f"delete t from x t\nwhere {text}", None, (UP,)), sizes, (share,), "10")
            self.check(planned(f"delete t from x t\nwhere {text}"), sizes, (share,), "30")
        # Another side that is a column of the same row, another column and another sign do not.
        for text in ("x.a <= x.b", "x.b = x.a", "x.a <= x.a", "x.b <= 5", "x.a != 5", "x.b = 5"):
            plan = planned(f"delete t from x t\nwhere {text}\nwhere x.a <= 3", None, (UP,))
            self.check(plan, sizes, (share, Ratio(1)), "30")
            self.check(plan, sizes, (Ratio(1), share), "10")
            self.check(planned(f"delete t from x t\nwhere {text}\nwhere x.a <= 3", None, (UP,), hold=1), sizes,
                       (share, Ratio(1)), "40")

    def test_several_conditions_that_bound(self):
        text = "delete t from x t\nwhere x.a <= 5\nwhere x.a = 3\nwhere x.a <= 4"
        self.check(planned(text, None, (DOWN,)), (("t", 100),), ratios("1/2", "1/5", "1/4"), "5/2")
        self.check(planned(text, hold=1), (("t", 100),), ratios("1/2", "1/5", "1/4"), "205/2")

    def test_two_references(self):
        text = "insert t from x t, y u\nwhere x.a <= y.c\nwhere x.b = 5\nset a to 1\nset b to 2"
        sizes, shares = (("t", 40), ("u", 6)), ratios("1/3", "1/10")
        self.check(planned(text), sizes, shares, "64")
        self.check(planned(text, ("y", "x")), sizes, shares, "246")
        # y.c bounds the scan of u from x, and x.a the one of t from y.
        self.check(planned(text, None, (HEAP, ("up", "c"))), sizes, shares, "48")
        self.check(planned(text, ("y", "x"), (HEAP, UP)), sizes, shares, "86")
        self.check(planned(text, ("y", "x"), (HEAP, ("up", "b"))), sizes, shares, "30")
        # At level 1 the other reference's column is not there yet.
        self.check(planned(text, None, (UP, HEAP)), sizes, shares, "64")
        self.check(planned(text, None, (("up", "b"), HEAP)), sizes, shares, "28")
        self.check(planned(text, None, (("up", "b"), ("down", "c"))), sizes, shares, "12")

    def test_holds_and_keep_at_both_levels(self):
        text = "insert t from x t, y u\nwhere x.a <= y.c\nwhere x.b = 5\nset a to 1\nset b to 2"
        sizes, shares = (("t", 40), ("u", 6)), ratios("1/3", "1/10")
        # 40 rows are fetched, 4 pass, 24 are fetched, 8 pass.
        self.check(planned(text, hold=1), sizes, shares, "68")
        self.check(planned(text, hold=2), sizes, shares, "72")
        self.check(planned(text, keep=True), sizes, shares, "80")
        self.check(planned(text, hold=1, marks=("x",)), sizes, shares, "68")
        self.check(planned(text, hands="many"), sizes, shares, "64")

    def test_probes(self):
        text = "delete t from x t, y u\nwhere x.a = 1\nsome p where q = x.b\nnone r where m <= y.c"
        sizes, shares = (("t", 60), ("u", 7)), ratios("1/10", "1/2", "1/3")
        # 60 rows are fetched, 3 pass, 21 are fetched, 7 pass.
        self.check(planned(text), sizes, shares, "81")
        self.check(planned(text, hold=1), sizes, shares, "84")
        self.check(planned(text, hold=2), sizes, shares, "88")
        self.check(planned(text, keep=True), sizes, shares, "95")
        # 7 rows are fetched, 7/3 pass, 140 are fetched, 7 pass.
        self.check(planned(text, ("y", "x")), sizes, shares, "147")
        self.check(planned(text, ("y", "x"), hold=1), sizes, shares, "448/3")
        self.check(planned(text, ("y", "x"), (HEAP, UP), hold=2), sizes, shares, "28")

    def test_one_table_twice(self):
        text = "delete t from x t, y t\nwhere x.a <= y.b + 1"
        sizes, shares = (("t", 12),), ratios("1/3")
        self.check(planned(text), sizes, shares, "156")
        self.check(planned(text, None, (HEAP, ("up", "b"))), sizes, shares, "60")
        self.check(planned(text, ("y", "x"), (HEAP, UP)), sizes, shares, "60")
        self.check(planned(text, ("y", "x"), (HEAP, UP), keep=True), sizes, shares, "156")

    def test_sizes_and_shares_of_zero_and_one(self):
        text = "delete t from x t, y u\nwhere x.a = 1\nwhere y.c <= x.b"
        none, every = ratios("0/1", "1/1"), ratios("1/1", "1/1")
        self.check(planned(text, hold=2), (("t", 0), ("u", 9)), every, "0")
        self.check(planned(text, hold=2), (("t", 9), ("u", 0)), every, "9")
        self.check(planned(text, hold=2), (("t", 9), ("u", 9)), every, "171")
        self.check(planned(text, hold=2), (("t", 9), ("u", 9)), none, "9")
        self.check(planned(text, None, (UP, HEAP), hold=2), (("t", 9), ("u", 9)), none, "0")
        self.check(planned(text, keep=True), (("t", 9), ("u", 9)), none[::-1], "90")
        self.check(planned("delete t from x t", keep=True), (("t", 7),), (), "21")

    def test_great_numbers(self):
        text = "delete t from x t, y u\nwhere x.a = 1"
        sizes = (("t", 10 ** 40), ("u", 10 ** 40))
        self.check(planned(text), sizes, ratios(f"1/{10 ** 39}"), str(10 ** 40 + 10 ** 41))

    def test_random_plans(self):
        source = random.Random(34)
        for _ in range(150):
            statement = lively_statement(source, probes=0.5)
            sizes = tuple((name, source.choice((0, 1, 7, 10 ** 6))) for name in
                          sorted({table for _, table in statement.references}))
            count = len(statement.conditions) + len(statement.probes)
            shares = tuple(source.choice(ratios("0/1", "1/1", "1/3", "1/10", "9/10", "2/7")) for _ in range(count))
            for hands in ("one", "many"):
                for plan in plans_of(statement, hands=hands):
                    self.assertEqual(str(cost(plan, sizes, shares)), str(slow_cost(plan, sizes, shares)))
                    self.assertEqual(cost(plan.turned("x"), sizes, shares), cost(plan, sizes, shares))


if __name__ == "__main__":
    unittest.main()
