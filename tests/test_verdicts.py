"""Points 19 and 20: what a run is found to be."""

import random
import unittest

from lively import lively_database, lively_statement
from ownwake.databases import Database
from ownwake.errors import Duplicate
from ownwake.lives import LiveRun
from ownwake.meanings import meaning
from ownwake.plans import Plan, plans_of
from ownwake.schemas import Schema
from ownwake.statements import Statement
from ownwake.verdicts import verdict
from samples import SlowHands, SlowRun, is_plain, slow_verdict

SCHEMA = Schema(("p", ("q",), (), ()), ("t", ("a", "b"), ("a", "b"), ()), ("u", ("c",), ("c",), ()))
X, XY, XW = (("x", "t"),), (("x", "t"), ("y", "u")), (("x", "t"), ("w", "t"))
A, B, C, WA, WB = ("x", "a"), ("x", "b"), ("y", "c"), ("w", "a"), ("w", "b")
HEAP, UP, DOWN = ("heap",), ("up", "a"), ("down", "a")
OPEN, PLAIN = ("open",), ("plain",)


def built(t, u=(), p=()):
    return Database(SCHEMA, tuple((name, 9, tuple(enumerate(rows))) for name, rows in [("p", p), ("t", t), ("u", u)]))


def update(references=X, settings=(("a", A, 2),), **parts):
    return Statement(SCHEMA, "update", "t", references, settings=settings, **parts)


FIVE = update(conditions=((A, "<=", None, 5),))
# A target goes out of the inner scan's way, or its copy tells what was written.
AWAY = update(XW, settings=(("a", A, 9),), conditions=((WA, "<=", None, 5), (A, "<=", None, 5)))
TOLD = update(XW, settings=(("b", B, 1),), told=(WB,))
NEW = Statement(SCHEMA, "insert", "t", X, conditions=((A, "<=", None, 2),), settings=(("a", A, 1), ("b", None, 7)))


class VerdictTest(unittest.TestCase):
    def check(self, plan, database, raised, last, hands=None):
        """Whether a run raises these matches, and is open, or what it is at the end from a raised match on."""
        run = LiveRun(plan, database)
        found = [verdict(run)]
        for hand in hands or [0] * 40:
            if run.play((hand,)) == 1:
                found.append(verdict(run))
        self.assertEqual([numbers for numbers, _ in run.raised], raised)
        self.assertEqual(found[-1], last)
        told = [some for some in found if some != OPEN]
        self.assertEqual(told, [last] * len(told))
        self.assertEqual(found[:-len(told)], [OPEN] * (len(found) - len(told)))
        self.assertTrue(is_plain(tuple(found)))
        return len(told)


class ByOneHand(VerdictTest):
    def test_again(self):
        plan = Plan(FIVE, None, (UP,))
        # It is so from the second time on, behind each of the five events from there.
        self.assertEqual(self.check(plan, built([(1, 0), (4, 0)]), [(0,), (0,), (1,), (0,)], ("again", (0,), (0,))), 5)
        self.check(plan, built([(5, 0)]), [(0,)], PLAIN)
        self.check(plan, built([(6, 0)]), [], PLAIN)
        self.check(plan, built([]), [], PLAIN)

    def test_extra(self):
        # Row 0 has got what the condition asks of w.
        plan = Plan(update(XW, settings=(("a", A, 3),), conditions=((A, "<=", None, 1), (WA, "=", None, 4))))
        self.check(plan, built([(1, 0), (4, 0)]), [(0, 1)], PLAIN)
        self.check(plan, built([(1, 0), (1, 0), (4, 0)]), [(0, 2), (1, 0), (1, 1), (1, 2)],
                   ("extra", (1, 0), (0, 2)))

    def test_extra_by_the_outer_row(self):
        # Row 1 is no w of a match until (1, 0) gives it 4.
        statement = update(XW, settings=(("a", A, 3),), conditions=((WA, "=", None, 4), (A, "<=", WB, 0)))
        plan = Plan(statement, ("w", "x"))
        self.check(plan, built([(4, 1), (1, 5), (3, 0)]), [(1, 0), (0, 1), (1, 1), (2, 1)], ("extra", (0, 1), (1, 0)))

    def test_extra_of_a_new_row(self):
        self.check(Plan(NEW), built([(1, 0)]), [(0,), (9,)], ("extra", (9,), (0,)))
        # The writer is the match for which the row was made, not the first one.
        self.check(Plan(NEW, None, (UP,)), built([(3, 0), (2, 0), (1, 0)]), [(2,), (1,), (9,)], ("extra", (9,), (2,)))
        self.check(Plan(NEW, None, (DOWN,)), built([(3, 0), (2, 0), (1, 0)]), [(1,), (2,)], PLAIN)

    def test_changed(self):
        self.check(Plan(TOLD), built([(1, 0), (2, 0)]), [(0, 0), (0, 1), (1, 0), (1, 1)], ("changed", (1, 0), (0, 0)))

    def test_copies_that_differ_only_in_columns_that_are_not_read(self):
        rows, raised = built([(1, 0), (2, 0)], p=[(5,)]), [(0, 0), (0, 1), (1, 0), (1, 1)]
        self.check(Plan(update(XW, settings=(("b", A, 1),), told=(WA,))), rows, raised, PLAIN)
        self.check(Plan(update(XW, settings=(("b", B, 1),))), rows, raised, PLAIN)
        changed = ("changed", (1, 0), (0, 0))
        for parts in [{"told": (WB,)}, {"conditions": ((WB, "<=", None, 9),)}, {"conditions": ((A, "<=", WB, 9),)},
                      {"probes": (("some", "p", (), ("q", ">=", WB, 0)),)}]:
            self.check(Plan(update(XW, settings=(("b", A, 1),), **parts)), rows, raised, changed)
        # The source of a setting is read, too, here of the target at level 2.
        plan = Plan(update(XW, settings=(("b", B, 1),)), ("w", "x"))
        self.check(plan, rows, [(0, 0), (1, 0), (0, 1), (1, 1)], ("changed", (0, 1), (0, 0)))
        plan = Plan(update(XW, settings=(("b", A, 1),)), ("w", "x"))
        self.check(plan, rows, [(0, 0), (1, 0), (0, 1), (1, 1)], PLAIN)

    def test_extra_comes_before_again_and_changed(self):
        # (1, 0) is no match of the beginning; that its copies are changed ones, too, does not count.
        statement = update(XW, settings=(("b", B, 1),), conditions=((A, "<=", WB, 0), (WB, "<=", None, 8)))
        raised = [(0, 0), (0, 1), (1, 0), (1, 1)]
        self.check(Plan(statement), built([(0, 0), (1, 0)]), raised, ("extra", (1, 0), (0, 0)))

    def test_again_comes_before_changed(self):
        plan = Plan(update(conditions=((A, "<=", None, 5),), told=(A,)), None, (UP,))
        self.check(plan, built([(3, 0)]), [(0,), (0,)], ("again", (0,), (0,)))

    def test_the_first_match_that_is_not_right_is_told(self):
        # (1,) is extra when row 1 has got 5 from (1,); before that (0,) comes again.
        statement = update(settings=(("a", A, 2),), conditions=((A, "<=", None, 5),), told=(A,))
        rows = built([(1, 0), (2, 0)])
        self.check(Plan(statement, None, (UP,)), rows, [(0,), (1,), (0,), (1,), (0,)], ("again", (0,), (0,)))
        # Here (1, 0) is extra, and so are (1, 1), (2, 0) and (2, 1) later.
        statement = update(XW, settings=(("a", A, 5),), conditions=((WA, "!=", None, 1), (A, "<=", None, 2)))
        self.check(Plan(statement), built([(1, 0), (1, 0), (2, 0)]),
                   [(0, 2), (1, 0), (1, 1), (1, 2), (2, 0), (2, 1), (2, 2)], ("extra", (1, 0), (0, 2)))

    def test_missing(self):
        delete = Statement(SCHEMA, "delete", "t", XY)
        rows = built([(1, 0)], [(1,), (2,)])
        # The table is as it should be, but the second match was never raised.
        self.assertEqual(self.check(Plan(delete, ("y", "x")), rows, [(0, 0)], ("missing", (0, 1), (0, 0))), 1)
        run = LiveRun(Plan(delete, ("y", "x")), rows)
        run.go()
        self.assertEqual(run.data, meaning(delete, rows)[1].data)
        self.check(Plan(delete), rows, [(0, 0), (0, 1)], PLAIN)

    def test_the_least_missing_match(self):
        delete = Statement(SCHEMA, "delete", "t", XY)
        rows = built([(1, 0), (2, 0)], [(1,), (2,), (3,)])
        self.check(Plan(delete, ("y", "x")), rows, [(0, 0), (1, 0)], ("missing", (0, 1), (0, 0)))
        # Here (1, 0) is the least one that was not raised, and row 1 was removed by (1, 2).
        plan = Plan(delete, ("y", "x"))
        self.check(plan, built([(1, 0), (2, 0)], [(1,)]), [(0, 0), (1, 0)], PLAIN)

    def test_missing_of_an_update(self):
        self.check(Plan(AWAY), built([(3, 0), (4, 0)]), [(0, 0), (0, 1), (1, 1)], ("missing", (1, 0), (0, 0)))
        # It is told at the end alone, here when the last row has been fetched.
        rows = built([(3, 0), (4, 0), (99, 0)])
        self.assertEqual(self.check(Plan(AWAY), rows, [(0, 0), (0, 1), (1, 1)], ("missing", (1, 0), (0, 0))), 1)

    def test_the_writer_is_the_first_one(self):
        # Row 0 was written by (0, 0), (0, 1) and (0, 2); row 1 by no match yet.
        rows = built([(1, 0), (2, 0), (3, 0)])
        run = LiveRun(Plan(TOLD), rows)
        run.go()
        self.assertEqual(verdict(run), ("changed", (1, 0), (0, 0)))
        # Both rows of (0, 1) were written, row 0 first.
        run = LiveRun(Plan(TOLD, ("w", "x")), rows)
        run.go()
        self.assertEqual([numbers for numbers, _ in run.raised][:4], [(0, 0), (1, 0), (2, 0), (0, 1)])
        self.assertEqual(verdict(run), ("changed", (0, 1), (0, 0)))

    def test_a_match_that_wrote_nothing_is_no_writer(self):
        # Row 0 has its settings already, so (0, 0) and (0, 1) write nothing.
        statement = update(XW, settings=(("b", None, 5),), told=(WB,))
        raised = [(0, 0), (0, 1), (1, 0), (1, 1)]
        self.check(Plan(statement), built([(1, 5), (2, 0)]), raised, ("changed", (1, 1), (1, 0)))
        self.check(Plan(statement), built([(1, 5), (2, 5)]), raised, PLAIN)
        # Row 1 goes with (1, 0), so w does not meet it any more; (1, 2) finds it gone and removes nothing.
        delete = Statement(SCHEMA, "delete", "t", XW, conditions=((B, "<=", None, 5),))
        raised = [(1, 0), (1, 2), (2, 0)]
        self.check(Plan(delete), built([(1, 9), (2, 0), (3, 0)]), raised, ("missing", (1, 1), (1, 0)))

    def test_rows_of_the_other_table_with_the_same_numbers(self):
        # (1, 0) has removed row 1 of t, not row 1 of u.
        delete = Statement(SCHEMA, "delete", "t", XY, conditions=((A, "<=", C, 0),))
        plan = Plan(delete, ("y", "x"), (HEAP, DOWN))
        self.check(plan, built([(1, 0), (2, 0)], [(2,), (2,)]), [(1, 0), (0, 0)], ("missing", (0, 1), (0, 0)))
        # Row 1 of u is new; row 1 of t is not.
        insert = Statement(SCHEMA, "insert", "u", XY, conditions=((C, "<=", None, 1),), settings=(("c", C, 1),))
        rows = Database(SCHEMA, (("t", 2, ((1, (0, 0)),)), ("u", 1, ((0, (1,)),))))
        self.check(Plan(insert), rows, [(1, 0)], PLAIN)
        insert = Statement(SCHEMA, "insert", "u", XY, conditions=((C, "<=", None, 2),), settings=(("c", C, 1),))
        rows = Database(SCHEMA, (("t", 3, ((1, (0, 0)), (2, (0, 0)))), ("u", 1, ((0, (2,)),))))
        self.check(Plan(insert), rows, [(1, 0), (2, 0)], PLAIN)
        rows = Database(SCHEMA, (("t", 3, ((1, (0, 0)), (2, (0, 0)))), ("u", 1, ((0, (1,)),))))
        run = LiveRun(Plan(insert), rows)
        run.go()
        self.assertEqual([numbers for numbers, _ in run.raised][:2], [(1, 0), (1, 1)])
        self.assertEqual(verdict(run), ("extra", (1, 1), (1, 0)))

    def test_holds_keep_and_marks(self):
        for parts, word in [({}, "again"), ({"hold": 1}, "plain"), ({"keep": True}, "plain"), ({"marks": ("x",)}, "plain")]:
            run = LiveRun(Plan(FIVE, None, (UP,), **parts), built([(1, 0), (4, 0)]))
            run.go(40)
            self.assertEqual(verdict(run)[0], word)
        for parts, word in [({}, "changed"), ({"hold": 1}, "changed"), ({"hold": 2}, "plain"), ({"keep": True}, "plain"),
                            ({"marks": ("x",)}, "changed"), ({"marks": ("w",)}, "missing")]:
            run = LiveRun(Plan(TOLD, **parts), built([(1, 0), (2, 0)]))
            run.go(40)
            self.assertEqual(verdict(run)[0], word, parts)

    def test_probes(self):
        # As it was written, row 0 has an answer; as it stood, it had none.
        statement = update(probes=(("none", "p", (), ("q", "<=", A, 0)),), conditions=((A, "<=", None, 9),))
        self.check(Plan(statement, None, (UP,)), built([(1, 0)], p=[(2,)]), [(0,)], PLAIN)
        statement = update(probes=(("some", "p", (), ("q", "<=", A, 0)),), conditions=((A, "<=", None, 4),))
        rows = built([(1, 0), (2, 0)], p=[(2,)])
        self.check(Plan(statement, None, (UP,)), rows, [(1,), (1,)], ("again", (1,), (1,)))
        statement = update(XW, settings=(("a", A, 2),), probes=(("some", "p", (), ("q", "<=", WA, 0)),))
        self.check(Plan(statement), built([(1, 0)], p=[(2,)]), [], PLAIN)
        self.check(Plan(statement), built([(1, 0), (2, 0)], p=[(2,)]), [(0, 1), (1, 0), (1, 1)],
                   ("extra", (1, 0), (0, 1)))

    def test_a_thousand_events(self):
        run = LiveRun(Plan(update(conditions=((A, "<=", None, 10 ** 6),)), None, (UP,)), built([(1, 0)]))
        run.go(1000)
        self.assertEqual(verdict(run), ("again", (0,), (0,)))
        insert = Statement(SCHEMA, "insert", "t", X, settings=(("a", A, 0), ("b", A, 0)))
        run = LiveRun(Plan(insert), built([(1, 0)]))
        run.go(1000)
        self.assertEqual(verdict(run), ("extra", (9,), (0,)))


class ByManyHands(VerdictTest):
    def test_who_waits(self):
        # Hand 1 fetches row 0 before hand 0 writes it, so (1, 0) is right; row 1 it finds changed by itself.
        plan, rows = Plan(AWAY, hands="many"), built([(3, 0), (4, 0)])
        self.check(plan, rows, [(0, 0), (1, 0)], ("missing", (0, 1), (0, 0)), [0, 1, 0, 1, 0, 1, 0, 1])
        self.check(plan, rows, [(0, 0), (0, 1), (1, 0)], ("missing", (1, 1), (1, 0)), [0, 1, 0, 1, 0, 0, 0, 1, 1])
        plan = Plan(TOLD, hands="many")
        raised = [(0, 0), (1, 0), (0, 1), (1, 1)]
        self.check(plan, built([(1, 0), (2, 0)]), raised[:2] + [(1, 1)], ("changed", (1, 1), (1, 0)),
                   [0, 1, 0, 1, 0, 1, 1, 1])

    def test_one_reference(self):
        plan, rows = Plan(FIVE, None, (UP,), hands="many"), built([(1, 0), (4, 0)])
        self.check(plan, rows, [(0,), (1,)], PLAIN, [0, 1, 0, 1])
        self.check(plan, rows, [(0,), (0,), (1,)], ("again", (0,), (0,)), [0, 0, 1, 1, 1, 1])

    def test_open_as_long_as_some_hand_has_a_match_to_raise(self):
        run = LiveRun(Plan(FIVE, hands="many"), built([(1, 0), (4, 0)]))
        run.play((0, 3, 3))
        self.assertEqual([verdict(run), run.play((0,)), verdict(run)], [OPEN, 1, PLAIN])

    def test_writers_of_other_hands(self):
        # Both rows are fetched first; the new row of row 1 gets the number 9.
        plan = Plan(NEW, hands="many")
        self.check(plan, built([(2, 0), (1, 0)]), [(1,), (0,), (9,)], ("extra", (9,), (1,)), [0, 1, 1, 0, 0, 0])


class AgainstTheDocument(unittest.TestCase):
    def test_by_one_hand(self):
        source = random.Random(19)
        words = {}
        for _ in range(300):
            statement = lively_statement(source)
            database = lively_database(source, statement.schema)
            plans = list(plans_of(statement))
            for plan in source.sample(plans, min(4, len(plans))):
                limit = source.choice((0, 1, 3, 7, 20, 60))
                run, slow = LiveRun(plan, database), SlowRun(plan, database, limit)
                ended = slow.by_one_hand()
                run.go(limit)
                found = verdict(run)
                self.assertEqual(found, slow_verdict(slow, ended))
                words[found[0]] = words.get(found[0], 0) + 1
        self.assertEqual(len(words), 6)

    def test_by_many_hands(self):
        source = random.Random(191)
        words = {}
        for _ in range(300):
            statement = lively_statement(source)
            database = lively_database(source, statement.schema)
            plans = list(plans_of(statement, hands="many"))
            for plan in source.sample(plans, min(3, len(plans))):
                run, slow = LiveRun(plan, database), SlowHands(plan, database)
                for _ in range(source.choice((5, 20, 50))):
                    hand = source.randint(0, 2)
                    run.play((hand,))
                    slow.step(hand)
                found = verdict(run)
                self.assertEqual(found, slow_verdict(slow, slow.is_idle()))
                words[found[0]] = words.get(found[0], 0) + 1
        self.assertEqual(len(words), 6)


class SoundByHoldOrKeep(unittest.TestCase):
    def outcome(self, statement, database):
        """The tellings and the database that a statement means, or the column and value that are refused."""
        try:
            return meaning(statement, database)
        except Duplicate as error:
            return error.column, error.value

    def test_what_they_tell_and_leave(self):
        source = random.Random(20)
        refused = 0
        for _ in range(250):
            statement = lively_statement(source, keyed=0.3)
            database = lively_database(source, statement.schema, most=4)
            plans = [plan for plan in plans_of(statement) if plan.keep or plan.hold == len(plan.order)]
            for plan in source.sample(plans, min(6, len(plans))):
                run = LiveRun(plan, database)
                while not run.ended:
                    self.assertEqual(verdict(run), OPEN)
                    run.step()
                self.assertEqual(verdict(run), PLAIN)
                expected = self.outcome(statement, database)
                if run.refused is not None:
                    refused += 1
                    self.assertEqual(run.refused, expected)
                else:
                    self.assertEqual(tuple(sorted(run.raised)), expected[0])
                    self.assertTrue(Database(database.schema, run.data).alike(expected[1], database))
        self.assertGreater(refused, 10)

    def test_a_plain_run_does_so_too(self):
        # Point 19: what is not disturbed tells and leaves what is meant, by whatever plan.
        source = random.Random(201)
        for _ in range(250):
            statement = lively_statement(source, keyed=0.3)
            database = lively_database(source, statement.schema)
            for hands in ("one", "many"):
                plans = list(plans_of(statement, hands=hands))
                for plan in source.sample(plans, min(2, len(plans))):
                    run = LiveRun(plan, database)
                    if not run.go(200) or verdict(run) != PLAIN:
                        continue
                    expected = self.outcome(statement, database)
                    if run.refused is not None:
                        self.assertEqual(run.refused, expected)
                    else:
                        self.assertEqual(tuple(sorted(run.raised)), expected[0])
                        self.assertTrue(Database(database.schema, run.data).alike(expected[1], database))


if __name__ == "__main__":
    unittest.main()
