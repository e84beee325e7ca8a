"""Points 15 to 17: live runs by one hand."""

import random
import unittest

from ownwake.databases import Database
from ownwake.errors import Idle
from ownwake.lives import LiveRun
from ownwake.meanings import meaning
from ownwake.plans import Plan, plans_of
from ownwake.schemas import Schema
from ownwake.statements import Statement
from samples import SlowRun, is_plain, random_database, random_schema, random_statement

SCHEMA = Schema(("p", ("q",), (), ()), ("t", ("a", "b"), ("a", "b"), ()), ("u", ("c",), ("c",), ()))
X, XY, XW = (("x", "t"),), (("x", "t"), ("y", "u")), (("x", "t"), ("w", "t"))
A, B, C = ("x", "a"), ("x", "b"), ("y", "c")
HEAP, UP, DOWN = ("heap",), ("up", "a"), ("down", "a")


def update(references=X, settings=(("a", A, 2),), **parts):
    return Statement(SCHEMA, "update", "t", references, settings=settings, **parts)


def built(t, u=(), p=()):
    return Database(SCHEMA, tuple((name, 9, tuple(enumerate(rows))) for name, rows in [("p", p), ("t", t), ("u", u)]))


def short(run):
    """The events without hand 0 and the word fetch: (level, number), or the numbers of a match as a list."""
    return [list(event[2]) if event[0] == "raise" else event[2:] for event in run.events]


class RunTest(unittest.TestCase):
    def check(self, events, table, run):
        """Whether a run that has made no event makes these, looked at behind each step, and leaves this table."""
        begun = LiveRun(run.plan, Database(SCHEMA, run.data))
        self.assertIs(run.go(), True)
        self.assertEqual(short(run), events)
        data = {part[0]: part for part in run.data}
        self.assertEqual(data["t"][2], tuple(table))
        for at, event in enumerate(run.events):
            self.assertEqual((len(begun), begun.ended, begun.refused), (at, False, None))
            self.assertEqual(begun.step(), event)
            self.assertEqual(begun.events, run.events[:at + 1])
            raised = [some for some in begun.events if some[0] == "raise"]
            self.assertEqual([some[2] for some in raised], [numbers for numbers, _ in begun.raised])
        self.assertEqual((begun.ended, begun.data, begun.raised, begun.refused), (True, run.data, run.raised, None))
        with self.assertRaises(Idle) as caught:
            begun.step()
        self.assertEqual(caught.exception.hand, 0)
        self.assertEqual((begun.events, begun.data), (run.events, run.data))
        self.assertTrue(is_plain((run.events, run.data, run.raised, run.ended, run.refused)))


class Runs(RunTest):
    def test_up_meets_its_own_rows(self):
        statement = update(conditions=((A, "<=", None, 5),), told=(A, B))
        run = LiveRun(Plan(statement, None, (UP,)), built([(1, 0), (4, 0)]))
        self.check([(1, 0), [0], (1, 0), [0], (1, 1), [1], (1, 0), [0]], [(0, (7, 0)), (1, (6, 0))], run)
        self.assertEqual(run.raised, (((0,), (1, 0)), ((0,), (3, 0)), ((1,), (4, 0)), ((0,), (5, 0))))

    def test_down_and_heap_do_not(self):
        statement = update(conditions=((A, "<=", None, 5),))
        for path, events in [(DOWN, [(1, 1), [1], (1, 0), [0]]), (HEAP, [(1, 0), [0], (1, 1), [1], (1, 2)])]:
            run = LiveRun(Plan(statement, None, (path,)), built([(1, 0), (4, 0), (6, 0)]))
            self.check(events, [(0, (3, 0)), (1, (6, 0)), (2, (6, 0))], run)

    def test_a_bound_spares_the_fetch(self):
        # By the heap all rows are fetched and tested; by the index those within the bounds alone.
        statement = update(conditions=((A, "=", None, 4), (B, "<=", None, 0)))
        rows = built([(1, 0), (4, 1), (4, 0), (9, 0)])
        self.check([(1, 0), (1, 1), (1, 2), [2], (1, 3)], [(0, (1, 0)), (1, (4, 1)), (2, (6, 0)), (3, (9, 0))],
                   LiveRun(Plan(statement), rows))
        self.check([(1, 1), (1, 2), [2]], [(0, (1, 0)), (1, (4, 1)), (2, (6, 0)), (3, (9, 0))],
                   LiveRun(Plan(statement, None, (UP,)), rows))
        self.check([(1, 2), [2], (1, 1)], [(0, (1, 0)), (1, (4, 1)), (2, (6, 0)), (3, (9, 0))],
                   LiveRun(Plan(statement, None, (DOWN,)), rows))

    def test_conditions_that_do_not_bound(self):
        # Neither `!=`, nor a condition within one row, nor one of another column spares a fetch.
        for conditions in [((A, "<=", None, 99), (A, "!=", None, 1)), ((A, "<=", B, 0),),
                           ((A, "<=", None, 99), (B, "<=", None, -1))]:
            statement = Statement(SCHEMA, "delete", "t", X, conditions=conditions)
            run = LiveRun(Plan(statement, None, (UP,)), built([(1, 0)]))
            self.assertEqual([run.go(), run.events], [True, (("fetch", 0, 1, 0),)])

    def test_crossed_bounds(self):
        statement = update(conditions=((A, "<=", None, 2), (A, "=", None, 3)))
        run = LiveRun(Plan(statement, None, (UP,)), built([(1, 0), (2, 0), (3, 0)]))
        self.assertEqual([run.ended, run.go(), len(run), run.events], [True, True, 0, ()])

    def test_the_least_of_the_greatest(self):
        statement = update(conditions=((A, "<=", None, 9), (A, "<=", None, 1), (A, "<=", None, 5)))
        run = LiveRun(Plan(statement, None, (UP,)), built([(1, 0), (2, 0), (6, 0)]))
        self.check([(1, 0), [0]], [(0, (3, 0)), (1, (2, 0)), (2, (6, 0))], run)

    def test_settings_of_the_copy(self):
        statement = update(settings=(("a", B, 1), ("b", A, 0)), conditions=((A, "<=", None, 3),), told=(B,))
        # At last a gets the value that it has, so the row stays at its place.
        run = LiveRun(Plan(statement, None, (UP,)), built([(1, 1)]))
        self.check([(1, 0), [0], (1, 0), [0]], [(0, (2, 2))], run)
        self.assertEqual([values for _, values in run.raised], [(1,), (1,)])

    def test_what_a_target_has_already_is_not_written(self):
        # A mark skips rows that were written; this one never is.
        statement = update(XW, settings=(("a", None, 5),))
        run = LiveRun(Plan(statement, marks=("w", "x")), built([(5, 0)]))
        self.check([(1, 0), (2, 0), [0, 0]], [(0, (5, 0))], run)
        run = LiveRun(Plan(statement, marks=("w", "x")), built([(5, 0), (5, 1)]))
        self.check([(1, 0), (2, 0), [0, 0], (2, 1), [0, 1], (1, 1), (2, 0), [1, 0], (2, 1), [1, 1]],
                   [(0, (5, 0)), (1, (5, 1))], run)

    def test_marks(self):
        statement = update(conditions=((A, "<=", None, 5),))
        run = LiveRun(Plan(statement, None, (UP,), marks=("x",)), built([(1, 0), (4, 0)]))
        self.check([(1, 0), [0], (1, 1), [1]], [(0, (3, 0)), (1, (6, 0))], run)

    def test_marks_of_an_insert(self):
        statement = Statement(SCHEMA, "insert", "t", X, conditions=((A, "<=", None, 3),),
                              settings=(("a", A, 1), ("b", None, 7)), told=(A,))
        new = [(9, (2, 7)), (10, (3, 7)), (11, (4, 7))]
        run = LiveRun(Plan(statement, None, (UP,)), built([(1, 0)]))
        self.check([(1, 0), [0], (1, 9), [9], (1, 10), [10]], [(0, (1, 0)), *new], run)
        self.assertEqual([part[1] for part in run.data], [9, 12, 9])
        run = LiveRun(Plan(statement), built([(1, 0)]))
        self.check([(1, 0), [0], (1, 9), [9], (1, 10), [10], (1, 11)], [(0, (1, 0)), *new], run)
        run = LiveRun(Plan(statement, marks=("x",)), built([(1, 0)]))
        self.check([(1, 0), [0]], [(0, (1, 0)), new[0]], run)
        run = LiveRun(Plan(statement, None, (DOWN,)), built([(1, 0), (2, 0)]))
        self.check([(1, 1), [1], (1, 0), [0]], [(0, (1, 0)), (1, (2, 0)), (9, (3, 7)), (10, (2, 7))], run)

    def test_an_insert_into_another_table(self):
        statement = Statement(SCHEMA, "insert", "u", X, settings=(("c", A, 0),))
        run = LiveRun(Plan(statement), built([(1, 0), (2, 0)], [(7,)]))
        self.check([(1, 0), [0], (1, 1), [1]], [(0, (1, 0)), (1, (2, 0))], run)
        self.assertEqual(run.data[2], ("u", 11, ((0, (7,)), (9, (1,)), (10, (2,)))))

    def test_deletes(self):
        statement = Statement(SCHEMA, "delete", "t", X, conditions=((A, "<=", None, 3),))
        for path, first, last in [(HEAP, 0, 1), (UP, 0, 1), (DOWN, 1, 0)]:
            run = LiveRun(Plan(statement, None, (path,)), built([(1, 0), (2, 0)]))
            self.check([(1, first), [first], (1, last), [last]], [], run)
            self.assertEqual(run.data[1], ("t", 9, ()))

    def test_a_target_that_is_gone_goes_once(self):
        statement = Statement(SCHEMA, "delete", "t", XY)
        run = LiveRun(Plan(statement), built([(1, 0)], [(1,), (2,)]))
        self.check([(1, 0), (2, 0), [0, 0], (2, 1), [0, 1]], [], run)
        # With the target inside, its second partner does not find it.
        run = LiveRun(Plan(statement, ("y", "x")), built([(1, 0)], [(1,), (2,)]))
        self.check([(1, 0), (2, 0), [0, 0], (1, 1)], [], run)

    def test_endless_runs(self):
        statement = update(conditions=((A, "<=", A, 0), (A, "<=", None, 10 ** 9)))
        run = LiveRun(Plan(statement, None, (UP,)), built([(1, 0)]))
        self.assertEqual([run.go(), len(run), run.ended], [False, 400, False])
        self.assertEqual([run.go(400), len(run)], [False, 400])
        self.assertEqual([run.go(100), len(run)], [False, 400])
        self.assertEqual([run.go(limit=401), len(run), run.events[400]], [False, 401, ("fetch", 0, 1, 0)])
        self.assertEqual(run.data[1], ("t", 9, ((0, (401, 0)),)))

    def test_limits(self):
        run = LiveRun(Plan(update(conditions=((A, "<=", None, 5),)), None, (UP,)), built([(1, 0), (4, 0)]))
        for limit in (0, 3, 7):
            self.assertEqual([run.go(limit), len(run)], [False, limit])
        self.assertEqual([run.go(8), len(run), run.ended], [True, 8, True])
        self.assertEqual([run.go(3), len(run)], [True, 8])

    def test_play(self):
        statement = update(conditions=((A, "<=", None, 5),))
        plan, rows = Plan(statement, None, (UP,)), built([(1, 0), (4, 0)])
        run = LiveRun(plan, rows)
        self.assertEqual([run.play((0, 0, 0)), len(run)], [3, 3])
        self.assertEqual([run.play(()), run.play((0, 1, 0)), len(run)], [0, 1, 4])
        self.assertEqual([run.play((1, 0)), len(run)], [0, 4])
        self.assertEqual([run.play(weaving=(0,) * 9), len(run), run.ended], [4, 8, True])
        other = LiveRun(plan, rows)
        other.go()
        self.assertEqual(other.events, run.events)

    def test_other_hands_are_idle(self):
        run = LiveRun(Plan(update()), built([(1, 0)]))
        for hand in (1, 2, 10 ** 9):
            with self.assertRaises(Idle) as caught:
                run.step(hand)
            self.assertEqual([caught.exception.hand, len(run), run.ended], [hand, 0, False])
        self.assertEqual(run.step(hand=0), ("fetch", 0, 1, 0))

    def test_no_rows(self):
        run = LiveRun(Plan(update()), built([]))
        self.assertEqual([run.ended, run.refused, len(run), run.events, run.raised], [True, None, 0, (), ()])
        self.assertEqual([run.go(), run.play((0,))], [True, 0])
        self.assertEqual(run.plan, Plan(update()))
        with self.assertRaises(Idle):
            run.step()


class TwoLevels(RunTest):
    def test_both_orders(self):
        statement = update(XY, settings=(("b", B, 1),), conditions=((A, "<=", C, 0),), told=(C, A))
        rows = built([(1, 0), (3, 0)], [(2,), (3,)])
        after = [(0, (1, 1)), (1, (3, 1))]
        run = LiveRun(Plan(statement), rows)
        self.check([(1, 0), (2, 0), [0, 0], (2, 1), [0, 1], (1, 1), (2, 0), (2, 1), [1, 1]], after, run)
        self.assertEqual(run.raised, (((0, 0), (2, 1)), ((0, 1), (3, 1)), ((1, 1), (3, 3))))
        # Here row 0 is met again when it has been written, so it gets one more.
        run = LiveRun(Plan(statement, ("y", "x")), rows)
        self.check([(1, 0), (2, 0), [0, 0], (2, 1), (1, 1), (2, 0), [0, 1], (2, 1), [1, 1]],
                   [(0, (1, 2)), (1, (3, 1))], run)

    def test_bounds_by_the_outer_copy(self):
        rows = built([(1, 0), (3, 0), (4, 0)], [(2,), (3,), (4,)])
        for condition, up in [
                ((A, "<=", C, 0), [(2, 0), (2, 1), (2, 2)]), ((A, "<=", C, -1), [(2, 0), (2, 1), (2, 2)]),
                ((A, "<=", C, -2), [(2, 1), (2, 2)]), ((C, "<=", A, 2), [(2, 0), (2, 1)]), ((C, "<=", A, 0), []),
                ((A, "=", C, -1), [(2, 0)]), ((C, "=", A, 3), [(2, 2)]), ((C, "=", A, 0), [])]:
            statement = Statement(SCHEMA, "delete", "t", XY, conditions=(condition, (A, "=", None, 1)))
            run = LiveRun(Plan(statement, None, (HEAP, ("up", "c"))), rows)
            run.go()
            self.assertEqual([event[2:] for event in run.events if event[:3] == ("fetch", 0, 2)], up)

    def test_the_outer_copy_stays(self):
        # The outer row is written by its first match; its copy still bounds and tests the inner scan.
        statement = update(XW, settings=(("a", A, 10),), conditions=((("w", "a"), "<=", A, 0), (("w", "b"), "=", None, 1)))
        rows = built([(3, 1), (2, 1), (9, 1)])
        run = LiveRun(Plan(statement, None, (HEAP, UP)), rows)
        self.check([(1, 0), (2, 1), [0, 1], (1, 1), (2, 1), [1, 1], (1, 2), (2, 2), [2, 2]],
                   [(0, (13, 1)), (1, (12, 1)), (2, (19, 1))], run)

    def test_a_scan_that_is_at_its_end_is_left(self):
        statement = Statement(SCHEMA, "insert", "u", XY, conditions=((C, "<=", None, 3),), settings=(("c", C, 1),))
        run = LiveRun(Plan(statement, ("y", "x"), (HEAP, HEAP)), built([(1, 0), (1, 1)], [(2,)]))
        self.check([(1, 0), (2, 0), [0, 0], (2, 1), [1, 0], (1, 9), (2, 0), [0, 9], (2, 1), [1, 9],
                    (1, 10), (2, 0), [0, 10], (2, 1), [1, 10], (1, 11), (1, 12), (1, 13), (1, 14)],
                   [(0, (1, 0)), (1, (1, 1))], run)

    def test_tests_at_their_levels(self):
        # A condition of the outer reference alone spares the inner scan, one of both does not.
        rows = built([(1, 0), (2, 5)], [(7,)], [(7,)])
        statement = Statement(SCHEMA, "delete", "t", XY, conditions=((B, "=", None, 5), (A, "<=", C, 0)))
        self.check([(1, 0), (1, 1), (2, 0), [1, 0]], [(0, (1, 0))], LiveRun(Plan(statement), rows))
        self.check([(1, 0), (2, 0), (2, 1), [1, 0]], [(0, (1, 0))], LiveRun(Plan(statement, ("y", "x")), rows))
        for word, link, events in [
                ("some", B, [(1, 0), (1, 1)]), ("none", B, [(1, 0), (2, 0), [0, 0], (1, 1), (2, 0), [1, 0]]),
                ("some", C, [(1, 0), (2, 0), [0, 0], (1, 1), (2, 0), [1, 0]]), ("none", C, [(1, 0), (2, 0), (1, 1), (2, 0)])]:
            statement = Statement(SCHEMA, "delete", "t", XY, probes=((word, "p", (), ("q", "=", link, 0)),))
            run = LiveRun(Plan(statement), rows)
            run.go()
            self.assertEqual(short(run), events)

    def test_probes_read_the_beginning(self):
        statement = Statement(SCHEMA, "delete", "t", X, probes=(("none", "p", (("q", "<=", None, 4),), ("q", "<=", A, 0)),))
        self.check([(1, 0), [0], (1, 1)], [(1, (5, 0))], LiveRun(Plan(statement), built([(1, 0), (5, 0)], p=[(7,), (3,)])))


class Holds(RunTest):
    STATEMENT = update(conditions=((A, "<=", None, 5),))
    PAIRS = update(XY, settings=(("a", A, 1), ("b", B, 1)), conditions=((A, "<=", C, 0),), told=(A, B))

    def test_one_level(self):
        rows = built([(1, 0), (4, 0)])
        run = LiveRun(Plan(self.STATEMENT, None, (UP,), hold=1), rows)
        self.check([(1, 0), (1, 1), [0], [1]], [(0, (3, 0)), (1, (6, 0))], run)
        run = LiveRun(Plan(self.STATEMENT, None, (DOWN,), hold=1), rows)
        self.check([(1, 1), (1, 0), [1], [0]], [(0, (3, 0)), (1, (6, 0))], run)

    def test_the_first_of_two_levels(self):
        # The inner rows are collected by nobody: row 0 is met again when it has been written.
        rows = built([(1, 0), (3, 0)], [(3,), (2,)])
        run = LiveRun(Plan(self.PAIRS, ("y", "x"), hold=1), rows)
        self.check([(1, 0), (1, 1), (2, 0), [0, 0], (2, 1), [1, 0], (2, 0), [0, 1], (2, 1)],
                   [(0, (3, 2)), (1, (4, 1))], run)
        self.assertEqual(run.raised, (((0, 0), (1, 0)), ((1, 0), (3, 0)), ((0, 1), (2, 1))))
        run = LiveRun(Plan(self.PAIRS, hold=1), rows)
        self.check([(1, 0), (1, 1), (2, 0), [0, 0], (2, 1), [0, 1], (2, 0), [1, 0], (2, 1)],
                   [(0, (2, 1)), (1, (4, 1))], run)

    def test_a_collected_row_without_partners(self):
        statement = update(XY, settings=(("b", B, 1),), conditions=((A, "<=", C, 0), (A, "<=", None, 9)))
        plan = Plan(statement, None, (UP, ("down", "c")), hold=1)
        run = LiveRun(plan, built([(5, 0), (1, 0), (4, 0)], [(1,), (2,)]))
        self.check([(1, 1), (1, 2), (1, 0), (2, 1), [1, 1], (2, 0), [1, 0]],
                   [(0, (5, 0)), (1, (1, 1)), (2, (4, 0))], run)
        run = LiveRun(plan, built([(5, 0), (4, 0)], [(1,), (2,)]))
        self.check([(1, 1), (1, 0)], [(0, (5, 0)), (1, (4, 0))], run)
        # Those that stand first and in the middle are left out, too, and the last one is not.
        run = LiveRun(plan, built([(3, 0), (4, 0), (5, 0), (2, 0), (6, 0)], [(3,)]))
        self.check([(1, 3), (1, 0), (1, 1), (1, 2), (1, 4), (2, 0), [3, 0], (2, 0), [0, 0]],
                   [(0, (3, 1)), (1, (4, 0)), (2, (5, 0)), (3, (2, 1)), (4, (6, 0))], run)

    def test_both_levels(self):
        rows = built([(1, 0), (3, 0)], [(3,), (2,)])
        run = LiveRun(Plan(self.PAIRS, ("y", "x"), hold=2), rows)
        self.check([(1, 0), (2, 0), (2, 1), (1, 1), (2, 0), (2, 1), [0, 0], [1, 0], [0, 1]],
                   [(0, (2, 1)), (1, (4, 1))], run)
        self.assertEqual(run.raised, (((0, 0), (1, 0)), ((1, 0), (3, 0)), ((0, 1), (1, 0))))

    def test_the_held_scan_is_left_for_good(self):
        # The first match makes a row that the scan of level 1 would return next; but that scan has been left.
        statement = Statement(SCHEMA, "insert", "t", XY, settings=(("a", A, 1), ("b", B, 0)))
        rows = built([(1, 0)], [(0,), (1,)])
        run = LiveRun(Plan(statement, hold=1), rows)
        self.check([(1, 0), (2, 0), [0, 0], (2, 1), [0, 1]], [(0, (1, 0)), (9, (2, 0)), (10, (2, 0))], run)
        run = LiveRun(Plan(statement, hold=2), rows)
        self.check([(1, 0), (2, 0), (2, 1), [0, 0], [0, 1]], [(0, (1, 0)), (9, (2, 0)), (10, (2, 0))], run)

    def test_hold_and_marks(self):
        statement = update(XW, settings=(("b", B, 1),))
        rows = built([(1, 0), (2, 0)])
        run = LiveRun(Plan(statement, hold=1, marks=("w",)), rows)
        self.check([(1, 0), (1, 1), (2, 0), [0, 0], (2, 1), [0, 1], (2, 1), [1, 1]], [(0, (1, 1)), (1, (2, 1))], run)
        run = LiveRun(Plan(statement, hold=2, marks=("w", "x")), rows)
        self.check([(1, 0), (2, 0), (2, 1), (1, 1), (2, 0), (2, 1), [0, 0], [0, 1], [1, 0], [1, 1]],
                   [(0, (1, 1)), (1, (2, 1))], run)

    def test_keep(self):
        run = LiveRun(Plan(self.STATEMENT, None, (UP,), keep=True), built([(1, 0), (4, 0)]))
        self.check([(1, 0), [0], (1, 1), [1]], [(0, (3, 0)), (1, (6, 0))], run)
        run = LiveRun(Plan(self.PAIRS, ("y", "x"), keep=True), built([(1, 0), (3, 0)], [(3,), (2,)]))
        self.check([(1, 0), (2, 0), [0, 0], (2, 1), [1, 0], (1, 1), (2, 0), [0, 1], (2, 1)],
                   [(0, (2, 1)), (1, (4, 1))], run)
        statement = Statement(SCHEMA, "delete", "t", XY)
        run = LiveRun(Plan(statement, ("y", "x"), keep=True), built([(1, 0)], [(1,), (2,)]))
        self.check([(1, 0), (2, 0), [0, 0], (1, 1), (2, 0), [0, 1]], [], run)


class Refusals(unittest.TestCase):
    KEYED = Schema(("t", ("k", "j"), ("k",), ("j", "k")))

    def run_of(self, settings, rows, **parts):
        conditions = ((("x", "k"), "<=", None, 9),)
        statement = Statement(self.KEYED, "update", "t", X, settings=settings, conditions=conditions)
        return LiveRun(Plan(statement, **parts), Database(self.KEYED, (("t", 9, tuple(enumerate(rows))),)))

    def test_only_at_the_end(self):
        run = self.run_of((("k", None, 5),), [(1, 1), (2, 2)])
        for _ in range(3):
            run.step()
            self.assertIsNone(run.refused)
        run.step()
        self.assertEqual([run.ended, run.refused], [True, ("k", 5)])
        self.assertTrue(is_plain(run.refused))
        self.assertEqual(run.data, (("t", 9, ((0, (5, 1)), (1, (5, 2)))),))

    def test_on_the_way_it_is_none(self):
        run = self.run_of((("k", ("x", "k"), 1),), [(1, 1), (2, 2)])
        run.play((0, 0))
        self.assertEqual(run.data[0][2], ((0, (2, 1)), (1, (2, 2))))
        self.assertEqual([run.refused, run.go(), run.refused], [None, True, None])

    def test_first_column_and_least_value(self):
        run = self.run_of((("j", None, 5), ("k", None, 6)), [(1, 1), (2, 2)])
        self.assertEqual([run.go(), run.refused], [True, ("k", 6)])
        run = self.run_of((("j", None, 5),), [(1, 1), (2, 2)])
        self.assertEqual([run.go(), run.refused], [True, ("j", 5)])
        run = self.run_of((("k", ("x", "j"), 0),), [(1, 2), (2, 1), (13, 5), (12, 6)])
        self.assertEqual([run.go(), run.refused], [True, None])

    def test_disturbed_or_not(self):
        # By the index upwards, row 0 goes on up to 11, where row 1 stands.
        run = self.run_of((("k", ("x", "k"), 2),), [(1, 1), (11, 2)], paths=(("up", "k"),))
        self.assertEqual([run.go(), run.refused, len(run.raised)], [True, ("k", 11), 5])
        run = self.run_of((("k", ("x", "k"), 2),), [(1, 1), (11, 2)])
        self.assertEqual([run.go(), run.refused, len(run.raised)], [True, None, 1])


class AgainstNestedLoops(unittest.TestCase):
    def test_many_plans(self):
        source = random.Random(16)
        for _ in range(250):
            schema = random_schema(source)
            statement, database = random_statement(source, schema), random_database(source, schema)
            plans = list(plans_of(statement))
            for plan in source.sample(plans, min(12, len(plans))):
                self.compare(plan, database)

    def compare(self, plan, database):
        before = database.data
        run, slow = LiveRun(plan, database), SlowRun(plan, database, limit=60)
        ended = slow.by_one_hand()
        self.assertIs(run.go(limit=60), ended or run.ended)
        self.assertEqual(list(run.events), slow.events)
        self.assertEqual(list(run.raised), slow.raised)
        self.assertEqual(run.data, slow.data())
        self.assertEqual(database.data, before)
        if run.ended and (plan.keep or plan.hold == len(plan.order)):
            tellings, after = meaning(plan.statement, database)
            self.assertEqual(tuple(sorted(run.raised)), tellings)
            self.assertTrue(Database(database.schema, run.data).alike(after, database))


if __name__ == "__main__":
    unittest.main()
