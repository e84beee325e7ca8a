"""Point 18: live runs by many hands."""

import random
import unittest

from ownwake.databases import Database
from ownwake.errors import Idle
from ownwake.lives import LiveRun
from ownwake.plans import Plan, plans_of
from ownwake.schemas import Schema
from ownwake.statements import Statement
from samples import SlowHands, is_plain, random_database, random_schema, random_statement

SCHEMA = Schema(("t", ("a", "b"), ("a",), ()), ("u", ("c",), ("c",), ()))
X, XY = (("x", "t"),), (("x", "t"), ("y", "u"))
A, B, C = ("x", "a"), ("x", "b"), ("y", "c")
HEAP, UP = ("heap",), ("up", "a")
ADD = Statement(SCHEMA, "update", "t", X, settings=(("a", A, 2),), conditions=((A, "<=", None, 5),), told=(A,))
PAIRS = Statement(SCHEMA, "insert", "u", XY, settings=(("c", C, 1),), conditions=((C, "<=", A, 0),))


def built(t, u=()):
    return Database(SCHEMA, tuple((name, 9, tuple(enumerate(rows))) for name, rows in [("t", t), ("u", u)]))


class Steps(unittest.TestCase):
    def steps(self, run, *events):
        """Make these events, each by the hand that it names, and look at the run behind each."""
        for event in events:
            before = len(run)
            self.assertEqual(run.step(event[1]), event)
            self.assertEqual([len(run), run.events[-1]], [before + 1, event])

    def idle(self, run, *hands):
        for hand in hands:
            before = (run.events, run.data, run.raised, run.ended, run.refused, len(run))
            with self.assertRaises(Idle) as caught:
                run.step(hand)
            self.assertEqual(caught.exception.hand, hand)
            self.assertEqual((run.events, run.data, run.raised, run.ended, run.refused, len(run)), before)

    def test_one_reference(self):
        run = LiveRun(Plan(ADD, None, (UP,), hands="many"), built([(1, 0), (4, 0)]))
        self.steps(run, ("fetch", 0, 1, 0), ("fetch", 1, 1, 1), ("raise", 0, (0,)))
        # Row 0 stands at 3 now, behind which the shared scan is already.
        self.idle(run, 0, 2, 7)
        self.assertEqual([run.ended, run.raised], [False, (((0,), (1,)),)])
        self.steps(run, ("raise", 1, (1,)))
        self.assertEqual([run.ended, run.data[0][2]], [True, ((0, (3, 0)), (1, (6, 0)))])
        self.idle(run, 0, 1, 2)
        self.assertTrue(is_plain((run.events, run.raised, run.data, run.ended)))

    def test_a_raise_comes_first(self):
        run = LiveRun(Plan(ADD, hands="many"), built([(1, 0), (4, 0)]))
        self.steps(run, ("fetch", 3, 1, 0), ("raise", 3, (0,)), ("fetch", 3, 1, 1), ("raise", 3, (1,)))
        self.idle(run, 3)

    def test_a_row_that_does_not_pass_gives_nothing(self):
        run = LiveRun(Plan(ADD, hands="many"), built([(9, 0), (4, 0)]))
        self.steps(run, ("fetch", 1, 1, 0), ("fetch", 1, 1, 1), ("raise", 1, (1,)))
        self.assertTrue(run.ended)

    def test_a_hand_that_has_not_stepped(self):
        run = LiveRun(Plan(ADD, hands="many"), built([(1, 0), (2, 0)]))
        self.assertFalse(run.ended)
        self.steps(run, ("fetch", 5, 1, 0))
        self.assertFalse(run.ended)
        self.steps(run, ("raise", 5, (0,)))
        # Hand 5 could go on, and so could any other.
        self.assertFalse(run.ended)
        self.steps(run, ("fetch", 0, 1, 1))
        self.idle(run, 5, 6)
        self.assertFalse(run.ended)
        self.steps(run, ("raise", 0, (1,)))
        self.assertTrue(run.ended)
        empty = LiveRun(Plan(ADD, hands="many"), built([]))
        self.assertEqual([empty.ended, empty.go()], [True, True])
        self.idle(empty, 0, 1)

    def test_idle_and_later_a_row(self):
        # What hand 0 raises stands ahead of the shared scan, or not.
        run = LiveRun(Plan(ADD, None, (UP,), hands="many"), built([(1, 0)]))
        self.steps(run, ("fetch", 0, 1, 0))
        self.idle(run, 1)
        self.assertFalse(run.ended)
        self.steps(run, ("raise", 0, (0,)), ("fetch", 1, 1, 0))
        self.idle(run, 0)
        self.steps(run, ("raise", 1, (0,)), ("fetch", 0, 1, 0), ("raise", 0, (0,)))
        self.assertEqual([run.ended, run.data[0][2]], [True, ((0, (7, 0)),)])

    def test_own_scans(self):
        run = LiveRun(Plan(PAIRS, hands="many"), built([(3, 0), (1, 0)], [(1,), (2,)]))
        self.steps(run, ("fetch", 0, 1, 0), ("fetch", 1, 1, 1), ("fetch", 1, 2, 0), ("fetch", 0, 2, 0),
                   ("raise", 0, (0, 0)), ("fetch", 0, 2, 1), ("raise", 0, (0, 1)), ("raise", 1, (1, 0)),
                   ("fetch", 1, 2, 1), ("fetch", 1, 2, 9))
        self.assertEqual(run.data[1], ("u", 12, ((0, (1,)), (1, (2,)), (9, (2,)), (10, (3,)), (11, (2,)))))

    def test_a_scan_at_its_end_is_asked_again(self):
        # Hand 0 has gone through u; then hand 1 makes a row in it.
        run = LiveRun(Plan(PAIRS, None, (HEAP, HEAP), hands="many"), built([(0, 0), (1, 0)], [(1,)]))
        self.steps(run, ("fetch", 0, 1, 0), ("fetch", 0, 2, 0), ("fetch", 1, 1, 1), ("fetch", 1, 2, 0))
        self.idle(run, 0, 2)
        self.assertFalse(run.ended)
        self.steps(run, ("raise", 1, (1, 0)), ("fetch", 0, 2, 9))
        self.idle(run, 0)
        self.steps(run, ("fetch", 1, 2, 9))
        self.assertTrue(run.ended)

    def test_the_own_scan_comes_before_the_shared_one(self):
        run = LiveRun(Plan(PAIRS, hands="many"), built([(0, 0), (1, 0)], [(1,), (5,)]))
        self.steps(run, ("fetch", 0, 1, 0), ("fetch", 0, 2, 0), ("fetch", 0, 2, 1), ("fetch", 0, 1, 1),
                   ("fetch", 0, 2, 0), ("raise", 0, (1, 0)), ("fetch", 0, 2, 1), ("fetch", 0, 2, 9))
        self.assertTrue(run.ended)

    def test_the_outer_row_is_dropped_with_its_scan(self):
        # The second outer row does not pass, so the hand has none, and no scan of its own.
        statement = Statement(SCHEMA, "insert", "u", XY, settings=(("c", C, 1),),
                              conditions=((C, "<=", A, 0), (B, "=", None, 0)))
        run = LiveRun(Plan(statement, hands="many"), built([(0, 0), (9, 1), (1, 0)], [(1,)]))
        self.steps(run, ("fetch", 0, 1, 0), ("fetch", 0, 2, 0), ("fetch", 0, 1, 1), ("fetch", 1, 1, 2),
                   ("fetch", 1, 2, 0), ("raise", 1, (2, 0)))
        self.idle(run, 0)
        self.steps(run, ("fetch", 1, 2, 9))
        self.assertTrue(run.ended)

    def test_a_new_outer_row_has_a_new_scan(self):
        run = LiveRun(Plan(PAIRS, hands="many"), built([(1, 0), (1, 1)], [(1,)]))
        self.steps(run, ("fetch", 0, 1, 0), ("fetch", 0, 2, 0), ("raise", 0, (0, 0)), ("fetch", 0, 2, 9),
                   ("fetch", 0, 1, 1), ("fetch", 0, 2, 0), ("raise", 0, (1, 0)), ("fetch", 0, 2, 9),
                   ("fetch", 0, 2, 10))
        self.assertTrue(run.ended)

    def test_bounds_by_the_own_outer_copy(self):
        run = LiveRun(Plan(PAIRS, None, (HEAP, ("up", "c")), hands="many"), built([(2, 0), (5, 0)], [(1,), (2,), (4,)]))
        self.steps(run, ("fetch", 0, 1, 0), ("fetch", 1, 1, 1), ("fetch", 0, 2, 0), ("fetch", 1, 2, 0),
                   ("raise", 1, (1, 0)), ("raise", 0, (0, 0)), ("fetch", 0, 2, 1), ("raise", 0, (0, 1)),
                   ("fetch", 0, 2, 9), ("raise", 0, (0, 9)), ("fetch", 0, 2, 10))

    def test_marks(self):
        statement = Statement(SCHEMA, "update", "t", X, settings=(("a", A, 2),), conditions=((A, "<=", None, 5),))
        run = LiveRun(Plan(statement, None, (UP,), marks=("x",), hands="many"), built([(1, 0), (4, 0)]))
        self.steps(run, ("fetch", 0, 1, 0), ("raise", 0, (0,)), ("fetch", 1, 1, 1))
        self.idle(run, 0)
        self.steps(run, ("raise", 1, (1,)))
        self.assertTrue(run.ended)

    def test_go_steps_with_hand_0(self):
        run = LiveRun(Plan(ADD, None, (UP,), hands="many"), built([(1, 0), (4, 0)]))
        run.step(1)
        self.assertIs(run.go(), False)
        self.assertEqual(run.events, (("fetch", 1, 1, 0), ("fetch", 0, 1, 1), ("raise", 0, (1,))))
        self.steps(run, ("raise", 1, (0,)))
        self.assertIs(run.go(), True)
        other = LiveRun(Plan(ADD, None, (UP,), hands="many"), built([(1, 0), (4, 0)]))
        self.assertEqual([other.go(3), len(other), other.go(), len(other)], [False, 3, True, 8])

    def test_play(self):
        run = LiveRun(Plan(ADD, hands="many"), built([(1, 0), (4, 0)]))
        self.assertEqual([run.play((0, 2, 1, 0)), len(run)], [2, 2])
        self.assertEqual([run.play((1,)), run.play((2, 0)), run.play((0,)), run.ended], [0, 2, 0, True])
        self.assertEqual(run.events, (("fetch", 0, 1, 0), ("fetch", 2, 1, 1), ("raise", 2, (1,)), ("raise", 0, (0,))))

    def test_refused_at_the_end_alone(self):
        schema = Schema(("t", ("k",), (), ("k",)))
        statement = Statement(schema, "update", "t", X, settings=(("k", None, 5),))
        run = LiveRun(Plan(statement, hands="many"), Database(schema, (("t", 2, ((0, (1,)), (1, (2,)))),)))
        self.assertEqual(run.play((0, 1, 0)), 3)
        self.assertEqual([run.ended, run.refused], [False, None])
        self.assertEqual([run.play((1, 0)), run.ended, run.refused], [1, True, ("k", 5)])

    def test_runs_share_nothing(self):
        plan, database = Plan(ADD, hands="many"), built([(1, 0), (4, 0)])
        one, other = LiveRun(plan, database), LiveRun(plan, database)
        one.play((0, 1, 0, 1))
        self.assertEqual([other.events, other.data, other.ended], [(), database.data, False])
        other.play((1, 0, 0, 1))
        self.assertEqual(one.data, other.data)


class AgainstTheRules(unittest.TestCase):
    def test_many_plans(self):
        source = random.Random(18)
        for _ in range(150):
            schema = random_schema(source)
            statement, database = random_statement(source, schema), random_database(source, schema)
            plans = list(plans_of(statement, hands="many"))
            for plan in source.sample(plans, min(5, len(plans))):
                self.compare(source, plan, database)

    def compare(self, source, plan, database):
        run, slow = LiveRun(plan, database), SlowHands(plan, database)
        for _ in range(40):
            hand = source.randint(0, 2)
            event = slow.step(hand)
            if event is None:
                with self.assertRaises(Idle):
                    run.step(hand)
            else:
                self.assertEqual(run.step(hand), event)
            self.assertEqual(run.data, slow.data())
        self.assertEqual(list(run.raised), slow.raised)
        # A run has ended if each hand is idle, and a hand that has not stepped is, too.
        ended = run.ended
        able = [hand for hand in range(4) if LiveRun.play(run, (hand,)) == 1]
        self.assertIs(ended, able == [])


if __name__ == "__main__":
    unittest.main()
