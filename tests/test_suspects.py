"""Points 23 to 27: the suspects of a plan and their clauses, written out by hand for small statements."""

import unittest

from ownwake.plans import Plan, plans_of
from ownwake.schemas import Schema
from ownwake.statements import Statement
from ownwake.suspects import suspects_of
from samples import is_plain
from variants import clause, listed

SCHEMA = Schema(("p", ("q",), (), ()), ("r", ("m", "n"), (), ()), ("t", ("a", "b"), ("a", "b"), ()),
                ("u", ("c",), ("c",), ()))
HEAP, UP, DOWN = ("heap",), ("up", "a"), ("down", "a")


def planned(text, order=None, paths=None, schema=SCHEMA, **parts):
    return Plan(Statement.read(schema, text), order, paths, **parts)


def unlike(one, other):
    return clause(f"{one} - {other} <= -1", f"{other} - {one} <= -1")


class SuspectsTest(unittest.TestCase):
    maxDiff = None

    def check(self, plan, *expected):
        """Whether a plan has just these suspects, given with their clauses."""
        found = suspects_of(plan)
        self.assertTrue(is_plain(found))
        self.assertEqual(found, tuple(sorted((some, listed(*clauses)) for some, clauses in expected)))

    def of(self, plan, *suspect):
        """The clauses of a suspect of a plan."""
        return dict(suspects_of(plan))[suspect]


RAISED, NEW = ("raised", (1,), (0,)), ("new", (1,), (0,))


class UpdatesOfOneReference(SuspectsTest):
    FIVE = "update t from x t\nwhere x.a <= 5\nset a to x.a + 2"

    def test_upwards(self):
        # The changed row has a + 2 <= 5; that it has changed, and is met again, holds always.
        self.check(planned(self.FIVE, None, (UP,)), (RAISED, [clause("w0a - 0 <= 3"), clause("w0a - 0 <= 5")]))

    def test_what_has_no_suspects(self):
        self.check(planned(self.FIVE))
        self.check(planned(self.FIVE, None, (DOWN,)))
        self.check(planned(self.FIVE, None, (UP,), hold=1))
        self.check(planned(self.FIVE, None, (UP,), keep=True))
        self.check(planned(self.FIVE, None, (UP,), marks=("x",)))
        # The values stay, or the changed column is not read.
        self.check(planned("update t from x t\nwhere x.a <= 5\nset a to x.a", None, (UP,)))
        self.check(planned("update t from x t\nwhere x.a <= 5\nset b to 7", None, (UP,)))

    def test_many_hands(self):
        self.check(planned(self.FIVE, None, (UP,), hands="many"),
                   (RAISED, [clause("w0a - 0 <= 3"), clause("w0a - 0 <= 5")]))
        self.check(planned(self.FIVE, hands="many"))

    def test_downwards(self):
        text = "update t from x t\nwhere x.a = 5\nwhere x.b != 0\nset a to x.b - 1"
        unlike_zero = clause("w0b - 0 <= -1", "0 - w0b <= -1")
        changed = clause("w0b - w0a <= 0", "w0a - w0b <= -2")
        same = [clause("w0b - 0 <= 6, 0 - w0b <= -6"), clause("w0a - 0 <= 5, 0 - w0a <= -5"), unlike_zero, changed]
        # Upwards a < b - 1, downwards a > b - 1.
        self.check(planned(text, None, (UP,)), (RAISED, [*same, clause("w0a - w0b <= -2")]))
        self.check(planned(text, None, (DOWN,)), (RAISED, [*same, clause("w0b - w0a <= 0")]))

    def test_a_constant(self):
        # 5 <= 5 holds, so nothing is asked of the changed row but that it has changed, and lies ahead.
        self.check(planned("update t from x t\nwhere x.a <= 5\nset a to 5", None, (UP,)),
                   (RAISED, [clause("w0a - 0 <= 5"), clause("w0a - 0 <= 4", "0 - w0a <= -6"), clause("w0a - 0 <= 4")]))
        # 6 <= 5 does not hold.
        self.check(planned("update t from x t\nwhere x.a <= 5\nset a to 6", None, (UP,)))

    def test_conditions_that_always_or_never_hold(self):
        self.check(planned("update t from x t\nwhere x.a <= x.a + 1\nset a to x.a + 1", None, (UP,)), (RAISED, []))
        self.check(planned("update t from x t\nwhere x.a <= x.a - 1\nset a to x.a + 1", None, (UP,)))
        self.check(planned("update t from x t\nwhere x.a = x.a\nset a to x.a + 1", None, (UP,)), (RAISED, []))
        self.check(planned("update t from x t\nwhere x.a <= 0\nwhere x.a != x.a\nset a to x.a + 1", None, (UP,)))
        self.check(planned("update t from x t\nwhere x.a <= x.a\nwhere x.a != x.a + 1\nset a to x.a + 1", None, (UP,)),
                   (RAISED, []))

    def test_changed_columns_that_are_read(self):
        # b is set, but not read, so a alone can have changed the row; with b read, it is either.
        text = "update t from x t\nwhere x.a <= 5\nset a to x.a + 1\nset b to 3"
        self.check(planned(text, None, (UP,)), (RAISED, [clause("w0a - 0 <= 4"), clause("w0a - 0 <= 5")]))
        text = "update t from x t\nwhere x.a <= x.b\nset a to x.b\nset b to 3"
        self.check(planned(text, None, (UP,)), (RAISED, [
            clause("w0b - 0 <= 3"), clause("w0a - w0b <= 0"),
            clause("w0b - w0a <= -1", "w0a - w0b <= -1", "w0b - 0 <= 2", "0 - w0b <= -4"), clause("w0a - w0b <= -1")]))

    def test_by_the_other_column(self):
        # By an index of b, which stays, the row keeps its place.
        self.check(planned("update t from x t\nwhere x.b <= 5\nset a to x.a + 1\ntell x.a", None, (("up", "b"),)))

    def test_probes(self):
        text = ("update t from x t\nwhere x.a <= 9\nsome p where q <= x.a + 1 and q = 7\n"
                "none r where m = x.a and n <= m + 1\nset a to x.a + 2")
        seven = [clause(f"f{row}q - 0 <= 7, 0 - f{row}q <= -7") for row in (0, 1)]
        self.check(planned(text, None, (UP,)), (RAISED, [
            clause("w0a - 0 <= 7"), clause("w0a - 0 <= 9"), *seven, clause("f0q - w0a <= 3"), clause("f1q - w0a <= 1")]))
        text = ("update t from x t\nwhere x.a <= 9\nnone p where q <= x.a\n"
                "some r where m >= x.a - 1 and n <= m + 1\nset a to x.a + 2")
        self.check(planned(text, None, (UP,)), (RAISED, [
            clause("w0a - 0 <= 7"), clause("w0a - 0 <= 9"), clause("s0n - s0m <= 1"), clause("s1n - s1m <= 1"),
            clause("w0a - s0m <= -1"), clause("w0a - s1m <= 1")]))

    def test_own_conditions_that_always_or_never_hold(self):
        text = "update t from x t\nwhere x.a <= 9\nsome p where q = x.a and q <= q + 1\nset a to x.a + 2"
        self.check(planned(text, None, (UP,)), (RAISED, [
            clause("w0a - 0 <= 7"), clause("w0a - 0 <= 9"), clause("f0q - w0a <= 2, w0a - f0q <= -2"),
            clause("f1q - w0a <= 0, w0a - f1q <= 0")]))
        text = "update t from x t\nwhere x.a <= 9\nsome p where q = x.a and q <= q - 1\nset a to x.a + 2"
        self.check(planned(text, None, (UP,)))


class InsertsOfOneReference(SuspectsTest):
    FIVE = "insert t from x t\nwhere x.a <= 5\nset a to x.a + 1\nset b to 7"

    def test_paths(self):
        both = [clause("w0a - 0 <= 4"), clause("w0a - 0 <= 5")]
        # By the heap a new row always lies behind; upwards it has to be as great, downwards less.
        self.check(planned(self.FIVE), (NEW, both))
        self.check(planned(self.FIVE, None, (UP,)), (NEW, both))
        self.check(planned(self.FIVE, None, (DOWN,)))
        self.check(planned(self.FIVE, hands="many"), (NEW, both))
        text = "insert t from x t\nwhere x.a <= 5\nset a to x.b + 1\nset b to 7"
        both = [clause("w0b - 0 <= 4"), clause("w0a - 0 <= 5")]
        self.check(planned(text), (NEW, both))
        self.check(planned(text, None, (UP,)), (NEW, [*both, clause("w0a - w0b <= 1")]))
        self.check(planned(text, None, (DOWN,)), (NEW, [*both, clause("w0b - w0a <= -2")]))
        text = "insert t from x t\nwhere x.a <= 5\nset a to x.a\nset b to 7"
        self.check(planned(text, None, (UP,)), (NEW, [clause("w0a - 0 <= 5")]))
        self.check(planned(text, None, (DOWN,)))

    def test_holds_marks_and_other_tables(self):
        for parts in ({"hold": 1}, {"keep": True}, {"marks": ("x",)}, {"marks": ("x",), "hands": "many"}):
            self.check(planned(self.FIVE, **parts))
        self.check(planned("insert t from x u\nset a to x.c\nset b to 7"))
        self.check(planned("insert u from x t\nset c to x.a"))

    def test_probes(self):
        text = "insert t from x t\nsome r where n = x.b and m <= 2\nset a to 3\nset b to x.a"
        self.check(planned(text), (NEW, [
            clause("f0m - 0 <= 2"), clause("f1m - 0 <= 2"), clause("f0n - w0a <= 0, w0a - f0n <= 0"),
            clause("f1n - w0b <= 0, w0b - f1n <= 0")]))


class DeletesOfOneReference(SuspectsTest):
    def test_none(self):
        for path in (HEAP, UP, DOWN):
            for hands in ("one", "many"):
                self.check(planned("delete t from x t\nwhere x.a <= 5", None, (path,), hands=hands))


class TwoTables(SuspectsTest):
    DELETE = "delete t from x t, y u\nwhere x.a <= y.c"

    def test_a_target_at_level_1(self):
        # The writer of the first row has it at level 1 itself, so it is not ahead there.
        for hands in ("one", "many"):
            self.check(planned(self.DELETE, hands=hands))

    def test_a_target_at_level_2(self):
        # e has row 0 of u and row 0 of t, its writer row 0 or 1 of u and row 0 of t.
        less = clause("w0a - o0c <= 0")
        self.check(planned(self.DELETE, ("y", "x")), (("missed", (2,), (0, 0, 1)), [
            less, clause("w0a - o1c <= 0"), clause("o1# - o0# <= -1"), unlike("o0#", "o1#")]))
        self.check(planned(self.DELETE, ("y", "x"), hold=1), (("missed", (2,), (0, 0, 1)), [
            less, clause("w0a - o1c <= 0"), clause("o1# - o0# <= -1"), unlike("o0#", "o1#")]))
        self.check(planned(self.DELETE, ("y", "x"), hands="many"), (("missed", (2,), (0, 0, 1)), [
            less, clause("w0a - o1c <= 0"), unlike("o0#", "o1#")]))
        self.check(planned(self.DELETE, ("y", "x"), hold=2))
        self.check(planned(self.DELETE, ("y", "x"), keep=True))

    def test_the_outer_path_is_what_counts(self):
        delete = "delete t from x t, y u\nwhere x.a <= y.c\nwhere y.c <= 9"
        nine = [clause("o0c - 0 <= 9"), clause("o1c - 0 <= 9")]
        for path, ahead in [(("up", "c"), clause("o1c - o0c <= -1", "o0c - o1c <= 0, o1c - o0c <= 0, o1# - o0# <= -1")),
                            (("down", "c"), clause("o0c - o1c <= -1", "o0c - o1c <= 0, o1c - o0c <= 0, o0# - o1# <= -1"))]:
            for inner in (HEAP, UP, DOWN):
                self.check(planned(delete, ("y", "x"), (path, inner)), (("missed", (2,), (0, 0, 1)), [
                    clause("w0a - o0c <= 0"), clause("w0a - o1c <= 0"), *nine, ahead, unlike("o0#", "o1#")]))

    def test_keys(self):
        schema = Schema(("t", ("a", "b"), (), ("a",)), ("u", ("c", "d"), (), ("c", "d")))
        plan = planned(self.DELETE, ("y", "x"), schema=schema)
        self.check(plan, (("missed", (2,), (0, 0, 1)), [
            clause("w0a - o0c <= 0"), clause("w0a - o1c <= 0"), clause("o1# - o0# <= -1"), unlike("o0#", "o1#"),
            unlike("o0c", "o1c"), unlike("o0d", "o1d")]))

    def test_an_update(self):
        # a goes beyond c only if the setting changes it, which it does always; b is set, but not read.
        text = "update t from x t, y u\nwhere x.a <= y.c\nset a to x.a + 1\nset b to 3"
        rows = [clause("w0a - o0c <= 0"), clause("w0a - o1c <= 0"), clause("o1# - o0# <= -1"), unlike("o0#", "o1#")]
        raised = [clause("w0a - o0c <= -1"), *rows[1:]]
        self.check(planned(text, ("y", "x")), (("missed", (2,), (0, 0, 1)), rows), (("raised", (2,), (0, 0, 1)), raised))
        self.check(planned(text, ("y", "x"), marks=("x",)), (("missed", (2,), (0, 0, 1)), rows[:1] + [
            clause("w0a - o1c <= 0"), clause("o1# - o0# <= -1"), unlike("o0#", "o1#")]))
        # Upwards, the row is met again by the same outer row, too; then it is in the same match.
        self.check(planned(text, ("y", "x"), (HEAP, UP)), (("missed", (2,), (0, 0, 1)), rows),
                   (("raised", (2,), (0, 0, 1)), raised),
                   (("raised", (2,), (0, 0, 0)), [clause("w0a - o0c <= -1"), clause("w0a - o0c <= 0")]))
        self.check(planned(text, ("y", "x"), (HEAP, DOWN)), (("missed", (2,), (0, 0, 1)), rows),
                   (("raised", (2,), (0, 0, 1)), raised))
        # By many hands the outer rows come in any order.
        free = [some for some in rows if some != clause("o1# - o0# <= -1")]
        self.check(planned(text, ("y", "x"), hands="many"), (("missed", (2,), (0, 0, 1)), free),
                   (("raised", (2,), (0, 0, 1)), [clause("w0a - o0c <= -1"), *free[1:]]))

    def test_what_marks_add(self):
        # With a mark, all set columns count: b, which is not read, and whose setting can leave it as it is.
        text = "update t from x t, y u\nwhere x.a <= y.c\nset b to 3"
        self.check(planned(text, ("y", "x")))
        rows = [clause("w0a - o0c <= 0"), clause("w0a - o1c <= 0"), clause("o1# - o0# <= -1"), unlike("o0#", "o1#")]
        self.check(planned(text, ("y", "x"), marks=("x",)), (("missed", (2,), (0, 0, 1)), [
            *rows, clause("w0b - 0 <= 2", "0 - w0b <= -4")]))

    def test_an_insert(self):
        text = "insert t from x t, y u\nwhere x.a <= y.c\nset a to y.c - 1\nset b to x.b"
        # e's new row has c - 1 of its writer's row of u; the writer's rows follow those of e.
        new = [clause("w0a - o1c <= 0"), clause("o1c - o0c <= 1"), unlike("o0#", "o1#")]
        same = [clause("w0a - o0c <= 0")]
        self.check(planned(text), (("new", (1,), (0, 0, 1)), new), (("new", (1,), (0, 0, 0)), same))
        down = clause("o1c - w0a <= 0")
        self.check(planned(text, None, (DOWN, HEAP)), (("new", (1,), (0, 0, 1)), [*new, down]),
                   (("new", (1,), (0, 0, 0)), [*same, clause("o0c - w0a <= 0")]))
        up = clause("w0a - o1c <= -1")
        self.check(planned(text, None, (UP, HEAP)), (("new", (1,), (0, 0, 1)), [*new, up]),
                   (("new", (1,), (0, 0, 0)), [*same, clause("w0a - o0c <= -1")]))

    def test_an_insert_whose_new_row_is_at_level_2(self):
        text = "insert t from x t, y u\nwhere x.a <= y.c\nset a to y.c - 1\nset b to x.b"
        new = [clause("w0a - o1c <= 0"), clause("o1c - o0c <= 1"), unlike("o0#", "o1#")]
        same = [clause("w0a - o0c <= 0")]
        self.check(planned(text, ("y", "x")), (("new", (2,), (0, 1, 0)), [*new, clause("o1# - o0# <= -1")]),
                   (("new", (2,), (0, 0, 0)), same))
        self.check(planned(text, ("y", "x"), hands="many"), (("new", (2,), (0, 1, 0)), new),
                   (("new", (2,), (0, 0, 0)), same))
        self.check(planned(text, ("y", "x"), (HEAP, UP), hands="many"), (("new", (2,), (0, 1, 0)), new),
                   (("new", (2,), (0, 0, 0)), [*same, clause("w0a - o0c <= -1")]))
        self.check(planned(text, ("y", "x"), marks=("x",)))


def before(one, other):
    """The clause that one row's number is less than that of another one."""
    return clause(f"w{one}# - w{other}# <= -1")


def all_unlike(count):
    return [unlike(f"w{i}#", f"w{j}#") for j in range(count) for i in range(j)]


def below(*pairs):
    """The clauses that the a of one row is at most the b of another one, perhaps plus an integer."""
    return [clause(f"w{one}a - w{other}b <= {(*k, 0)[0]}") for one, other, *k in pairs]


class OneTableTwice(SuspectsTest):
    TEXT = "update t from x t, w t\nwhere x.a <= w.b\nset b to x.b + 1"

    def test_the_target_outside(self):
        # The writer of e's row at level 2 has it at level 1, so what counts is which of e's rows comes first.
        expected = []
        for kind, k in [("missed", 0), ("raised", 1)]:
            expected += [
                ((kind, (2,), (0, 0, 1)), [*below((0, 0, k), (0, 1)), before(1, 0), *all_unlike(2)]),
                ((kind, (2,), (0, 1, 0)), [*below((0, 1, k), (1, 0)), before(1, 0), *all_unlike(2)]),
                ((kind, (2,), (0, 1, 1)), [*below((0, 1, k), (1, 1)), before(1, 0), *all_unlike(2)]),
                ((kind, (2,), (0, 1, 2)), [*below((0, 1, k), (1, 2)), before(1, 0), *all_unlike(3)])]
        self.check(planned(self.TEXT), *expected)
        self.check(planned(self.TEXT, hold=1), *expected)
        self.check(planned(self.TEXT, hold=2))
        self.check(planned(self.TEXT, keep=True))
        # A mark of w leaves what is missed alone; one of x, which has no suspects, changes nothing.
        self.check(planned(self.TEXT, marks=("w",)), *[some for some in expected if some[0][0] == "missed"])
        self.check(planned(self.TEXT, marks=("x",)), *expected)

    def missed_inside(self, order):
        return [(("missed", (1,), (0, 0, 1)), [*below((0, 0), (0, 1)), before(1, 0), *all_unlike(2)]),
                (("missed", (1,), (0, 1, 1)), [*below((1, 0), (0, 1)), before(1, 0), *all_unlike(2)]),
                (("missed", (1,), (0, 1, 2)), [*below((1, 0), (0, 2)), before(2, 0), *all_unlike(3)]),
                (("missed", (2,), (0, 0, 1)), [*below((0, 0), (0, 1)), *order(1, 0), *all_unlike(2)]),
                (("missed", (2,), (0, 1, 1)), [*below((1, 0), (1, 1)), *order(1, 0), *all_unlike(2)]),
                (("missed", (2,), (0, 1, 2)), [*below((1, 0), (1, 2)), *order(2, 0), *all_unlike(3)])]

    def raised_twice(self, order):
        return [(("raised", (1, 2), same), [*below((same[1], 0, 1), (0, same[2]), (same[1], same[3])),
                                            before(same[2], 0), *order(same[3], 0), *all_unlike(max(same) + 1)])
                for same in [(0, 0, 1, 1), (0, 0, 1, 2), (0, 1, 1, 1), (0, 1, 1, 2), (0, 1, 2, 1), (0, 1, 2, 2),
                             (0, 1, 2, 3)]]

    def test_the_target_inside(self):
        # Besides, the row of e that has not changed must not have been changed by a match that comes before.
        def kept(first, *partners, row):
            return [clause(f"w{some}b - w{row}a <= -1", f"w{first}# - w{some}# <= -1") for some in partners]

        def order(one, other):
            return [before(one, other)]

        self.check(
            planned(self.TEXT, ("w", "x")), *self.missed_inside(order), *self.raised_twice(order),
            (("raised", (1,), (0, 0, 1)), [*below((0, 0, 1), (0, 1)), before(1, 0), *all_unlike(2), *kept(0, 1, row=0)]),
            (("raised", (1,), (0, 1, 1)), [*below((1, 0, 1), (0, 1)), before(1, 0), *all_unlike(2), *kept(0, 1, row=1)]),
            (("raised", (1,), (0, 1, 2)), [*below((1, 0, 1), (0, 2)), before(2, 0), *all_unlike(3),
                                           *kept(0, 1, 2, row=1)]),
            (("raised", (2,), (0, 0, 1)), [*below((0, 0), (0, 1)), before(1, 0), *all_unlike(2), *kept(0, 1, row=0)]),
            (("raised", (2,), (0, 1, 1)), [*below((1, 0), (1, 1)), before(1, 0), *all_unlike(2), *kept(0, 1, row=0)]),
            (("raised", (2,), (0, 1, 2)), [*below((1, 0), (1, 2)), before(2, 0), *all_unlike(3),
                                           *kept(0, 1, 2, row=0)]))

    def test_a_held_level_is_not_open(self):
        # With hold 1, nothing is asked of e's row at level 1.
        self.check(
            planned(self.TEXT, ("w", "x"), hold=1), *[some for some in self.missed_inside(lambda *two: [before(*two)])
                                                      if some[0][1] == (2,)],
            (("raised", (2,), (0, 0, 1)), [*below((0, 0), (0, 1)), before(1, 0), *all_unlike(2)]),
            (("raised", (2,), (0, 1, 1)), [*below((1, 0), (1, 1)), before(1, 0), *all_unlike(2)]),
            (("raised", (2,), (0, 1, 2)), [*below((1, 0), (1, 2)), before(2, 0), *all_unlike(3)]))

    def test_many_hands(self):
        def order(*_):
            return []

        more = [(("raised", (1, 2), same), [*below((same[1], 0, 1), (0, same[2]), (same[1], 0)), before(same[2], 0),
                                            *all_unlike(max(same) + 1)])
                for same in [(0, 0, 1, 0), (0, 1, 1, 0), (0, 1, 2, 0)]]
        self.check(
            planned(self.TEXT, ("w", "x"), hands="many"), *self.missed_inside(order), *self.raised_twice(order), *more,
            # Of the matches that would change e's row at level 2, those of the writer's outer row count alone.
            (("raised", (1,), (0, 0, 1)), [*below((0, 0, 1), (0, 1)), before(1, 0), *all_unlike(2),
                                           clause("w1b - w0a <= -1")]),
            (("raised", (1,), (0, 1, 1)), [*below((1, 0, 1), (0, 1)), before(1, 0), *all_unlike(2),
                                           clause("w1b - w1a <= -1", "w0# - w1# <= -1")]),
            (("raised", (1,), (0, 1, 2)), [*below((1, 0, 1), (0, 2)), before(2, 0), *all_unlike(3),
                                           clause("w2b - w1a <= -1", "w0# - w1# <= -1")]),
            (("raised", (2,), (0, 0, 1)), [*below((0, 0), (0, 1)), *all_unlike(2)]),
            (("raised", (2,), (0, 1, 1)), [*below((1, 0), (1, 1)), *all_unlike(2)]),
            (("raised", (2,), (0, 1, 2)), [*below((1, 0), (1, 2)), *all_unlike(3)]))

    def test_many_hands_with_the_target_outside(self):
        # Its row at level 2 is changed by the writer's hand only if e has the same row at both levels.
        text = "update t from x t, w t\nwhere x.a <= 9\nwhere w.a <= 8\nset a to x.b"
        plan = planned(text, None, (UP, ("down", "a")), hands="many")
        written = clause("w0b - w0a <= -1", "w0a - w0b <= -1")
        ahead = clause("w0a - w0b <= -1")
        nine, eight = clause("w0a - 0 <= 9"), clause("w1a - 0 <= 8")
        self.assertEqual(self.of(plan, "raised", (1,), (0, 1, 1)), listed(
            clause("w0b - 0 <= 9"), nine, eight, written, ahead, *all_unlike(2)))
        self.assertEqual(self.of(plan, "raised", (1,), (0, 0, 1)), listed(
            clause("w0b - 0 <= 9"), nine, clause("w0a - 0 <= 8"), eight, written, ahead, *all_unlike(2),
            # v = (0, 0): it fails, or the writer's row 1 is ahead of row 0 downwards, or a stays.
            clause("0 - w0a <= -10", "0 - w0a <= -9", "w0a - w1a <= -1", "w0a - w1a <= 0, w1a - w0a <= 0, w0# - w1# <= -1",
                   "w0a - w0b <= 0, w0b - w0a <= 0"),
            # v = (0, 1) is the writer itself.
            clause("0 - w0a <= -10", "0 - w1a <= -9", "w0a - w0b <= 0, w0b - w0a <= 0")))

    def test_indexes_and_constants(self):
        text = "update t from x t, w t\nwhere w.b <= 9\nwhere x.b <= 8\nset b to 3"
        plan = planned(text, ("w", "x"), (("up", "b"), HEAP))
        changed = clause("w0b - 0 <= 2", "0 - w0b <= -4")

        def same_three(row):
            return f"w{row}b - 0 <= 3, 0 - w{row}b <= -3"

        def ahead(row):
            return clause(f"w{row}b - 0 <= 2", f"{same_three(row)}, w{row}# - w0# <= -1")

        def kept(partner, row):
            fails = [f"0 - w{partner}b <= -10", f"0 - w{row}b <= -9"]
            if partner == 0:
                return clause(*fails, "0 - w0b <= -4", same_three(0), same_three(row))
            return clause(*fails, f"0 - w{partner}b <= -4", f"{same_three(partner)}, w0# - w{partner}# <= -1",
                          same_three(row))

        nine = [clause(f"w{row}b - 0 <= 9") for row in range(3)]
        eight = [clause(f"w{row}b - 0 <= 8") for row in range(3)]
        found = [some for some in suspects_of(plan) if some[0][:2] == ("raised", (1,))]
        self.assertEqual(found, [
            (("raised", (1,), (0, 0, 0)), listed(eight[0], nine[0], changed, clause("w0b - 0 <= 2"), kept(0, 0))),
            (("raised", (1,), (0, 0, 1)), listed(eight[0], nine[1], changed, ahead(1), *all_unlike(2), kept(0, 0),
                                                 kept(1, 0))),
            (("raised", (1,), (0, 1, 0)), listed(eight[0], eight[1], nine[0], changed, clause("w0b - 0 <= 2"),
                                                 *all_unlike(2), kept(0, 1), kept(1, 1))),
            (("raised", (1,), (0, 1, 1)), listed(eight[0], eight[1], nine[1], changed, ahead(1), *all_unlike(2),
                                                 kept(0, 1), kept(1, 1))),
            (("raised", (1,), (0, 1, 2)), listed(eight[0], eight[1], nine[2], changed, ahead(2), *all_unlike(3),
                                                 kept(0, 1), kept(1, 1), kept(2, 1)))])

    def test_probes(self):
        text = ("update t from x t, w t\nwhere x.a <= w.b\nsome p where q <= w.b\n"
                "none r where m = x.a and n <= 4\nset b to x.b + 1")
        plan = planned(text, ("w", "x"))

        def kept(partner):
            row = f"s2.{partner}.1"
            answered = f"{row}n - 0 <= 4, {row}m - w1a <= 0, w1a - {row}m <= 0"
            sides = [(f"{row}m - w{some}a <= -1", f"w{some}a - {row}m <= -1") for some in (1, 0)]
            return clause(f"w{partner}b - w1a <= -1", f"w0# - w{partner}# <= -1",
                          f"w{partner}b - f0q <= -1, w{partner}b - f1q <= -1",
                          *[f"{answered}, {one}, {other}" for one in sides[0] for other in sides[1]])

        self.assertEqual(self.of(plan, "raised", (1,), (0, 1, 2)), listed(
            *below((1, 0, 1), (0, 2)), clause("f0q - w0b <= 1"), clause("f1q - w2b <= 0"), before(2, 0), *all_unlike(3),
            kept(1), kept(2)))
        # The writer of level 2 has an answer with the row (2,); nothing is asked for `none`.
        self.assertEqual(self.of(plan, "missed", (2,), (0, 1, 2)), listed(
            *below((1, 0), (1, 2)), clause("f0q - w0b <= 0"), clause("f2q - w2b <= 0"), before(2, 0), *all_unlike(3)))
        both = self.of(plan, "raised", (1, 2), (0, 1, 2, 3))
        self.assertEqual(both, listed(
            *below((1, 0, 1), (0, 2), (1, 3)), clause("f0q - w0b <= 1"), clause("f1q - w2b <= 0"),
            clause("f2q - w3b <= 0"), before(2, 0), before(3, 0), *all_unlike(4)))

    def test_links_that_fail(self):
        for sign, fails, other in [("<=", ["w{}b - f{}q <= -1"], "w{}b - f{}q <= -1"),
                                   (">=", ["f{}q - w{}b <= -1"], "")]:
            text = f"update t from x t, w t\nwhere w.a <= 7\nsome p where q {sign} w.b\nset b to x.b + 1"
            plan = planned(text, ("w", "x"))
            seven = [clause(f"w{row}a - 0 <= 7") for row in range(3)]
            rows = [("w1b - f{}q <= -1" if sign == "<=" else "f{}q - w1b <= -1").format(row) for row in (0, 1)]
            link = ["f0q - w0b <= 1", "f1q - w1b <= 0"] if sign == "<=" else ["w0b - f0q <= -1", "w1b - f1q <= 0"]
            self.assertEqual(self.of(plan, "raised", (1,), (0, 1, 1)), listed(
                *seven[:2], *[clause(some) for some in link], before(1, 0), *all_unlike(2),
                clause("0 - w1a <= -8", "w0# - w1# <= -1", ", ".join(rows))))

    def test_inserts(self):
        text = "insert t from x t, w t\nwhere x.a <= w.b\nset a to w.a + 1\nset b to x.b"
        plan = planned(text)
        first = [(("new", (1,), (0, *same)), [*below((same[1], 0, -1), (same[0], same[1])),
                                              *all_unlike(max(0, *same) + 1)])
                 for same in [(0, 0), (0, 1), (1, 0), (1, 1), (1, 2)]]
        second = [(("new", (2,), (0, *same)), [*below((0, same[0]), same), *all_unlike(max(0, *same) + 1)]
                   + ([before(1, 0)] if same[0] == 1 else []))
                  for same in [(0, 0), (0, 1), (1, 0), (1, 1), (1, 2)]]
        both = [(("new", (1, 2), (0, b, c, d)), [*below((b, c, -1), (0, b), (c, d)), *all_unlike(max(b, c, d) + 1)])
                for b in (0, 1) for c in range(b + 2) for d in range(max(b, c) + 2)]
        self.assertEqual(len(both), 15)
        self.check(plan, *first, *second, *both)
        self.check(planned(text, marks=("w",)), *first)
        self.check(planned(text, marks=("x",)), *second)
        self.check(planned(text, marks=("w", "x")))
        self.check(planned(text, hold=1), *second)
        free = [(suspect, [some for some in clauses if some != before(1, 0)]) for suspect, clauses in second]
        self.check(planned(text, hands="many"), *first, *free, *both)

    def test_new_rows_by_an_index(self):
        text = "insert t from x t, w t\nwhere x.a <= w.b\nset a to w.a + 1\nset b to x.b"
        for path, ahead in [(("up", "b"), "w1b - w0b <= 0"), (("down", "b"), "w0b - w1b <= -1")]:
            plan = planned(text, ("w", "x"), (path, HEAP))
            # e's new row at level 1 has the b of its writer's x, which is row 0 here, and the writer's w is row 1.
            self.assertEqual(self.of(plan, "new", (1,), (0, 1, 0)), listed(
                *below((0, 0), (0, 1)), clause(ahead), *all_unlike(2)))

    def test_deletes(self):
        text = "delete t from x t, w t\nwhere x.a <= w.b"
        missed = [(("missed", (2,), (0, 0, 1)), [*below((0, 0), (0, 1)), before(1, 0), *all_unlike(2)]),
                  (("missed", (2,), (0, 1, 0)), [*below((0, 1), (1, 0)), before(1, 0), *all_unlike(2)]),
                  (("missed", (2,), (0, 1, 1)), [*below((0, 1), (1, 1)), before(1, 0), *all_unlike(2)]),
                  (("missed", (2,), (0, 1, 2)), [*below((0, 1), (1, 2)), before(1, 0), *all_unlike(3)])]
        self.check(planned(text), *missed)
        self.check(planned(text, ("w", "x")), *self.missed_inside(lambda *two: [before(*two)]))
        self.check(planned(text, ("w", "x"), hands="many"), *self.missed_inside(lambda *two: []))


class AllPlans(SuspectsTest):
    def test_suspects_and_clauses_ascend(self):
        texts = ["update t from x t, w t\nwhere x.a <= w.b\nwhere w.a != 3\nsome r where m <= x.a\nset a to x.b",
                 "insert t from x t, w t\nwhere x.a <= w.b\nwhere w.a = 3\nset a to w.b\nset b to x.a - 1",
                 "delete t from x t, w t\nwhere x.a <= w.b\nwhere w.b <= 3\nnone p where q = w.a"]
        for text in texts:
            statement = Statement.read(SCHEMA, text)
            for plan in [*plans_of(statement), *plans_of(statement, hands="many")]:
                found = suspects_of(plan)
                self.assertEqual(found, tuple(sorted(found)))
                self.assertEqual(len({suspect for suspect, _ in found}), len(found))
                for _, clauses in found:
                    self.assertEqual(clauses, tuple(sorted(set(clauses))))
                    for some in clauses:
                        self.assertEqual(some, tuple(sorted(set(some))))
                        self.assertNotIn((), some)
                        self.assertNotEqual(some, ())
                        for alternative in some:
                            self.assertEqual(alternative, tuple(sorted(set(alternative))))
                if plan.keep or plan.hold == 2:
                    self.assertEqual(found, ())


if __name__ == "__main__":
    unittest.main()
