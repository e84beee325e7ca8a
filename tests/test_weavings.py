"""Point 18: the orders in which hands can step."""

import copy
import itertools
import random
import time
import unittest

from lively import lively_database, lively_statement
from ownwake.databases import Database
from ownwake.handbounds import LeastEvents
from ownwake.handmoves import HandMoves
from ownwake.lives import LiveRun
from ownwake.plans import Plan, plans_of
from ownwake.schemas import Schema
from ownwake.statements import Statement
from ownwake.verdicts import verdict
from ownwake.weavings import find_weaving, weavings
from samples import SlowHands, is_plain, slow_verdict

SCHEMA = Schema(("t", ("a", "b", "c"), ("a", "b"), ()), ("u", ("d", "e"), ("d", "e"), ()))
HEAP, UP, DOWN = ("heap",), ("up", "a"), ("down", "a")
ROWS = ((0, (1, 0, 0)), (1, (2, 5, 0)), (2, (3, 7, 1)))
PAIRS = ((0, (1, 0)), (1, (2, 5)), (2, (3, 7)))
FULL = Database(SCHEMA, (("t", 3, ROWS), ("u", 3, PAIRS)))
DISTURBED = ("extra", "again", "changed", "missing")


def planned(text, order=None, paths=None, hands="many", **parts):
    return Plan(Statement.read(SCHEMA, text), order, paths, hands=hands, **parts)


def built(rows, others=()):
    return Database(SCHEMA, (("t", 9, tuple(enumerate(rows))), ("u", 9, tuple(enumerate(others)))))


def all_ways(slow, hands, limit, weaving=()):
    """All weavings of a slow run in which no hand steps first before a lesser one, each with the run at its end."""
    yield weaving, slow
    if len(weaving) < limit:
        for hand in range(min(hands, max(weaving, default=-1) + 2)):
            longer = copy.deepcopy(slow, {id(slow.plan): slow.plan, id(slow.database): slow.database,
                                          id(slow.statement): slow.statement})
            if longer.step(hand) is not None:
                yield from all_ways(longer, hands, limit, (*weaving, hand))


class Small(unittest.TestCase):
    ADD = "update t from x t\nwhere x.a <= 5\nset a to x.a + 2"

    def all_of(self, plan, database, **limits):
        found = list(weavings(plan, database, **limits))
        self.assertTrue(is_plain(tuple(found)))
        return found

    def test_one_row(self):
        plan, rows = planned(self.ADD), built([(1, 0, 0)])
        self.assertEqual(self.all_of(plan, rows), [(0, 0)])
        # By the heap each row is met once, at its first place.
        two = [(0, 0, 0, 0), (0, 0, 1, 1), (0, 1, 0, 1), (0, 1, 1, 0)]
        self.assertEqual(self.all_of(plan, built([(1, 0, 0), (2, 0, 0)])), two)
        self.assertEqual(self.all_of(plan, built([(1, 0, 0), (2, 0, 0)]), hands=1), two[:1])
        self.assertEqual(self.all_of(plan, built([(1, 0, 0), (2, 0, 0)]), hands=7), two)

    def test_upwards(self):
        plan, rows = planned(self.ADD, None, (UP,)), built([(4, 0, 0), (5, 0, 0)])
        self.assertEqual(self.all_of(plan, rows), [(0, 0, 0, 0), (0, 0, 1, 1), (0, 1, 0, 1), (0, 1, 1, 0)])
        one = self.all_of(plan, built([(3, 0, 0)]))
        self.assertEqual(one, [(0, 0, 0, 0), (0, 0, 1, 1)])

    def test_three_hands(self):
        plan, rows = planned(self.ADD), built([(1, 0, 0), (2, 0, 0), (3, 0, 0)])
        found = self.all_of(plan, rows, hands=3)
        self.assertEqual(len(found), 31)
        self.assertIn((0, 1, 2, 2, 1, 0), found)
        self.assertEqual(found, sorted(set(found)))
        self.assertEqual(self.all_of(plan, rows, hands=30), found)
        self.assertEqual(self.all_of(plan, rows, hands=2), [some for some in found if 2 not in some])

    def test_greater_hands_need_not_step(self):
        found = self.all_of(planned(self.ADD), built([(1, 0, 0), (2, 0, 0)]), hands=3)
        self.assertIn((0, 0, 0, 0), found)

    def test_limits(self):
        plan, rows = planned(self.ADD), built([(1, 0, 0), (9, 0, 0)])
        self.assertEqual(self.all_of(plan, rows), [(0, 0, 0), (0, 0, 1), (0, 1, 0)])
        for limit, found in [(0, 0), (1, 0), (2, 0), (3, 3), (4, 3)]:
            self.assertEqual(len(self.all_of(plan, rows, limit=limit)), found)
        self.assertEqual(self.all_of(plan, built([(9, 0, 0)]), limit=1), [(0,)])
        self.assertEqual(self.all_of(plan, built([(9, 0, 0)]), limit=0), [])

    def test_the_empty_run(self):
        for hands in ("one", "many"):
            plan = planned(self.ADD, None, (UP,), hands)
            for rows in (built([]), built([(6, 0, 0)])):
                for limit in (0, 1, 16):
                    self.assertEqual(self.all_of(plan, rows, limit=limit), [()])
                    self.assertIsNone(find_weaving(plan, rows, limit=limit))

    def test_plans_by_one_hand(self):
        plan, rows = planned(self.ADD, None, (UP,), "one"), built([(1, 0, 0), (4, 0, 0)])
        self.assertEqual(self.all_of(plan, rows), [(0,) * 8])
        self.assertEqual(self.all_of(plan, rows, hands=5, limit=8), [(0,) * 8])
        self.assertEqual(self.all_of(plan, rows, hands=1, limit=7), [])
        endless = planned("update t from x t\nwhere x.a <= 999\nset a to x.a + 2", None, (UP,), "one")
        self.assertEqual(self.all_of(endless, rows, limit=24), [])

    def test_it_can_be_left_early_and_begun_within_another_one(self):
        plan = planned("delete t from x t, y u")
        whole = list(itertools.islice(weavings(plan, FULL, limit=24), 40))
        for at, weaving in enumerate(weavings(plan, FULL, limit=24)):
            self.assertEqual(weaving, whole[at])
            inner = list(itertools.islice(weavings(plan, FULL, limit=24), 3))
            self.assertEqual(inner, whole[:3])
            if at == 20:
                break
        one, other = weavings(plan, FULL, limit=24), weavings(plan, FULL, limit=24)
        mixed = [next(some) for _ in range(10) for some in (one, other)]
        self.assertEqual(mixed, [weaving for weaving in whole[:10] for _ in range(2)])


class Finding(unittest.TestCase):
    def check(self, plan, database, most, **limits):
        """Whether a weaving is found, and it needs no more events than this."""
        found = find_weaving(plan, database, limit=most, **limits)
        self.assertTrue(is_plain(found))
        self.assertLessEqual(len(found), most)
        self.assertLess(max(found), limits.get("hands", 2))
        run = LiveRun(plan, database)
        self.assertEqual(run.play(found), len(found))
        self.assertIn(verdict(run)[0], DISTURBED)
        self.assertIsNone(find_weaving(plan, database, limit=most - 1, **limits))

    def test_again(self):
        plan = planned("update t from x t\nwhere x.a <= 5\nset a to x.a + 2", None, (UP,))
        self.check(plan, built([(1, 0, 0), (4, 0, 0)]), 4)
        self.check(plan, built([(1, 0, 0), (4, 0, 0)]), 4, hands=1)
        self.assertIsNone(find_weaving(plan, built([(4, 0, 0), (5, 0, 0)])))

    def test_by_one_hand(self):
        plan = planned("update t from x t\nwhere x.a <= 5\nset a to x.a + 2", None, (UP,), "one")
        self.assertEqual(find_weaving(plan, built([(1, 0, 0), (4, 0, 0)])), (0,) * 4)
        self.assertIsNone(find_weaving(plan, built([(1, 0, 0), (4, 0, 0)]), limit=3))
        delete = planned("delete t from x t, y u", ("y", "x"), None, "one")
        self.assertEqual(find_weaving(delete, built([(1, 0, 0)], [(1, 1), (2, 2)])), (0,) * 4)
        self.assertIsNone(find_weaving(delete, built([(1, 0, 0)], [(1, 1)])))

    # By one hand, rows with a lesser a are written after they were met as y; another hand can be ahead of it.
    LESSER = ("update t from x t, y t\nwhere y.a <= x.a - 1\nset c to 9\ntell y.c", None, (DOWN, HEAP))

    def test_two_hands_are_needed(self):
        self.assertIsNone(find_weaving(planned(*self.LESSER), FULL, hands=1))
        self.check(planned(*self.LESSER), FULL, 8, hands=2)
        self.assertIsNone(find_weaving(planned(*self.LESSER, "one"), FULL))

    def test_new_rows_of_many_values(self):
        # The first new row has 5, which passes for the last outer row alone; the second one has 0, and passes at once.
        plan = planned("insert t from x t, y u\nwhere x.a <= y.d\nset a to y.e\nset b to 0\nset c to 0", ("y", "x"))
        rows = built([(0, 0, 0)], [(0, 5), (0, 0), (5, 9)])
        self.check(plan, rows, 10, hands=1)
        # By two hands the second outer row need not wait for the first one.
        self.check(plan, rows, 6, hands=2)

    def test_hands_below_the_number(self):
        for hands in (2, 3, 9):
            found = find_weaving(planned(*self.LESSER), FULL, hands=hands)
            self.assertLess(max(found), hands)
            self.assertEqual(LiveRun(planned(*self.LESSER), FULL).play(found), len(found))

    def test_only_a_long_one(self):
        # Only the last pair matches; its target is met once more, and then again.
        last = planned("update t from x t, y u\nwhere x.a <= 4\nwhere y.d <= x.b\nset a to x.a + 1", None, (UP, HEAP))
        rows = built([(1, 0, 0), (2, 0, 0), (3, 3, 0)], [(7, 0), (5, 0), (3, 0)])
        for hands, most in [(1, 18), (2, 15), (3, 12), (4, 12)]:
            self.check(last, rows, most, hands=hands)
        one = planned("update t from x t, y u\nwhere x.a <= 4\nwhere y.d <= x.b\nset a to x.a + 1", None, (UP, HEAP), "one")
        self.check(one, rows, 18)

    def test_limits_that_are_not_told(self):
        # The last row is met at 13, where row 1 stands, too; until then each match was right.
        text = "update t from x t, y u\nwhere x.a <= 20\nwhere y.d = x.a\nset a to x.a + 10"
        plan = planned(text, None, (UP, HEAP), "one")
        rows = built([(1, 0, 0), (13, 0, 0), (3, 0, 0)], [(1, 0), (3, 0), (13, 0)])
        self.assertEqual(find_weaving(plan, rows), (0,) * 24)
        self.assertIsNone(find_weaving(plan, rows, limit=23))
        plan = planned("update t from x t\nwhere x.a <= 8\nset a to x.a + 1", None, (UP,), "one")
        self.assertEqual(list(weavings(plan, built([(1, 0, 0)]))), [(0,) * 16])
        self.assertEqual(list(weavings(plan, built([(0, 0, 0)]))), [])
        self.assertEqual(list(weavings(plan, built([(0, 0, 0)]), limit=18)), [(0,) * 18])

    def test_missing_at_the_very_end(self):
        # All that is raised is right; only when nothing is left, a match is missing.
        plan = planned("delete t from x t, y u", ("y", "x"))
        self.check(plan, built([(1, 0, 0)], [(1, 1), (2, 2)]), 4)
        self.assertIsNone(find_weaving(plan, built([(1, 0, 0)], [(1, 1)])))

    def test_what_cannot_be_disturbed(self):
        for text in ("delete t from x t, y u", "update t from x t, y t\nset c to x.a", "insert u from x t, y t\nset d to 1\nset e to x.a"):
            for hands in (1, 2, 3):
                self.assertIsNone(find_weaving(planned(text), FULL, hands=hands))


class AgainstAllOrders(unittest.TestCase):
    def compare(self, plan, database, hands, limit):
        """Compare what is found with all orders; return whether there are several, and some that disturb."""
        ways = list(all_ways(SlowHands(plan, database), hands, limit))
        expected = sorted(weaving for weaving, slow in ways if slow.is_idle())
        told = (plan.statement.text, plan.data, database.data)
        self.assertEqual(list(weavings(plan, database, hands=hands, limit=limit)), expected, told)
        wrong = [weaving for weaving, slow in ways if slow_verdict(slow, slow.is_idle())[0] in DISTURBED]
        found = find_weaving(plan, database, hands=hands, limit=limit)
        self.assertEqual(found is None, wrong == [], told)
        if found is not None:
            run = LiveRun(plan, database)
            self.assertEqual(run.play(found), len(found))
            self.assertIn(verdict(run)[0], DISTURBED)
        return len(expected) > 3, wrong != []

    def test_many_plans(self):
        source = random.Random(181)
        seen = []
        for _ in range(150):
            statement = lively_statement(source, source.choice(("update", "insert", "delete")), probes=0.1)
            database = lively_database(source, statement.schema, spread=1, least=1)
            plans = list(plans_of(statement, hands="many"))
            for plan in source.sample(plans, min(2, len(plans))):
                hands = source.choice((1, 2, 2, 3))
                seen.append(self.compare(plan, database, hands, source.choice((6, 9)) if hands < 3 else 6))
        self.assertGreater(sum(several for several, _ in seen), 10)
        self.assertGreater(sum(disturbed for _, disturbed in seen), 20)

    def test_new_rows_by_an_index(self):
        # Which new rows a scan can return, and which of them pass, depends on the outer rows.
        source = random.Random(182)
        seen = []
        while len(seen) < 120:
            statement = lively_statement(source, "insert", 2, conditions=2, probes=0)
            if {table for _, table in statement.references} == {"u"}:
                continue
            database = lively_database(source, statement.schema, most=2, spread=1, least=1)
            plans = [plan for plan in plans_of(statement, hands="many") if plan.paths[1] != ("heap",)]
            for plan in source.sample(plans, min(2, len(plans))):
                seen.append(self.compare(plan, database, 2, 9))
        self.assertGreater(sum(several for several, _ in seen), 3)
        self.assertGreater(sum(disturbed for _, disturbed in seen), 10)


class EventsToCome(unittest.TestCase):
    """What is counted of events to come is never more than what is needed, or endings would be overlooked."""

    def needed(self, moves, state, limit, known):
        """The least number of events that bring a state to its end, or None if it is more than the limit."""
        if (state, limit) not in known:
            coming = moves.followers(state, 2)
            rest = [self.needed(moves, some, limit - 1, known) for some in coming] if limit > 0 else []
            counts = [count + 1 for count in rest if count is not None]
            known[state, limit] = 0 if coming == [] else min(counts, default=None)
        return known[state, limit]

    def test_random_plans(self):
        source = random.Random(183)
        sharp = 0
        for turn in range(400):
            kind = "update" if turn < 200 else None
            statement = lively_statement(source, kind, probes=0.1, conditions=source.choice((1, 1, 2)))
            database = lively_database(source, statement.schema, most=source.choice((1, 2)), spread=1, least=1)
            plans = [plan for plan in plans_of(statement, hands="many") if kind is None or set(plan.paths) != {HEAP}]
            for plan in source.sample(plans, min(1, len(plans))):
                moves, known = HandMoves(plan, database), {}
                self.needed(moves, moves.noticed(moves.start()), 10, known)
                bounds = LeastEvents(plan, moves, 24)
                for (state, limit), count in known.items():
                    if count is not None:
                        self.assertLessEqual(bounds.least(state), count, (statement.text, plan.data, state))
                        sharp += bounds.least(state) == count
        self.assertGreater(sharp, 1000)


LARGE = [
    ("update t from x t\nwhere x.a <= 999\nset a to x.a + 1", None, (UP,)),
    ("update t from x t, y t\nwhere x.a <= 999\nwhere y.a <= 999\nset a to x.a + 1", None, (UP, UP)),
    ("update t from x t, y t\nwhere x.a <= 999\nset a to x.a + 1", None, (UP, HEAP)),
    ("update t from x t, y u\nwhere x.a <= 999\nset a to x.a + 1\nset b to x.a", ("y", "x"), (HEAP, UP)),
    ("update t from x t, y u\nwhere x.a <= 999\nset c to 7", ("y", "x"), (HEAP, UP)),
    ("insert u from x t, y t\nset d to x.a\nset e to y.b", None, None),
    ("insert t from x t, y u\nwhere x.a <= 99\nset a to x.a + 999\nset b to y.d\nset c to x.b", ("y", "x"), None),
    ("insert t from x t, y t\nwhere x.a <= 99\nwhere y.a <= 99\nset a to x.a + 999\nset b to y.b\nset c to x.b", None, None),
    ("insert t from x t, y t\nset a to x.a\nset b to y.b\nset c to 0", None, None),
    ("insert t from x t, y t\nwhere x.a <= 999\nwhere y.a <= 999\nset a to x.a + 1\nset b to y.b\nset c to x.b", None,
     (UP, UP)),
    ("insert t from x t\nwhere x.a <= 999\nset a to x.a + 1\nset b to x.b\nset c to 0", None, (UP,)),
    ("insert t from x t\nset a to x.a + 1\nset b to x.b\nset c to 0", None, None),
    ("insert t from x t, y t\nwhere y.c <= x.c\nset a to y.c\nset b to y.c\nset c to y.a + 40", ("y", "x"), None),
    ("delete t from x t, y u", None, None),
    ("delete t from x t, y t", ("y", "x"), None),
]


class ShortTimes(unittest.TestCase):
    def test_the_greatest_limits(self):
        for text, order, paths in LARGE:
            for hands in (2, 3, 5):
                begun = time.time()
                plan = planned(text, order, paths)
                find_weaving(plan, FULL, hands=hands)
                for weaving in itertools.islice(weavings(plan, FULL, hands=hands, limit=24), 500):
                    self.assertLessEqual(len(weaving), 24)
                self.assertLess(time.time() - begun, 8, (text, hands))

    def test_runs_without_end(self):
        plan = planned(*LARGE[1])
        self.assertEqual(list(weavings(plan, FULL, limit=24)), [])
        plan = planned(*LARGE[8])
        self.assertEqual(list(weavings(plan, FULL, hands=4, limit=24)), [])

    def counted(self, outers, left, right, begun=True):
        """In how many orders two hands can go on that have so many events left with their outer rows."""
        if (outers, left, right) == (0, 0, 0):
            return 1
        ways = 0
        for one, other, able in [(left, right, True), (right, left, begun)]:
            if able and one > 0:
                ways += self.counted(outers, one - 1, other)
            elif able and outers > 0:
                ways += self.counted(outers - 1, 6, other)
        return ways

    def test_many_ways(self):
        # Each outer row brings six events, whoever fetches it.
        count = sum(1 for _ in weavings(planned("delete t from x t, y u"), FULL, limit=24))
        self.assertEqual(count, self.counted(3, 0, 0, False))


if __name__ == "__main__":
    unittest.main()
