"""Point 3 and the interface: what is told of a plan is looked at, whoever wrote it."""

import random
import unittest

from lively import lively_statement
from ownwake.databases import Database
from ownwake.deciding import decide
from ownwake.lives import LiveRun
from ownwake.plans import Plan, plans_of
from ownwake.schemas import Schema
from ownwake.soundchecks import disturbed_holds, sound_holds
from ownwake.statements import Statement
from ownwake.suspects import suspects_of
from ownwake.verdicts import verdict
from samples import ODD, deep
from variants import slow_tree, strict, variants

SCHEMA = Schema(("p", ("q",), (), ()), ("t", ("a", "b"), ("a", "b"), ()), ("u", ("c",), ("c",), ("c",)))
HEAP, UP, DOWN = ("heap",), ("up", "a"), ("down", "a")


def planned(text, order=None, paths=None, schema=SCHEMA, **parts):
    return Plan(Statement.read(schema, text), order, paths, **parts)


def slow_sound(plan, thing):
    """Whether a value has a tree for each suspect, of the right kinds at each depth."""
    told = suspects_of(plan)
    if type(thing) is not tuple or len(thing) != len(told):
        return False
    return all(type(part) is tuple and len(part) == 2 and strict(part[0], suspect) and slow_tree(clauses, part[1])
               for part, (suspect, clauses) in zip(thing, told))


def slow_disturbed(plan, thing):
    """Whether a value is data and a weaving by which a plan is disturbed, by the words of the document."""
    if type(thing) is not tuple or len(thing) != 2 or type(thing[1]) is not tuple:
        return False
    data, weaving = thing
    try:
        database = Database(plan.statement.schema, data)
    except ValueError:
        return False
    if not strict(database.data, data) or not all(type(hand) is int and hand >= 0 for hand in weaving):
        return False
    run = LiveRun(plan, database)
    return run.play(weaving) == len(weaving) and verdict(run)[0] not in ("open", "plain")


class Sound(unittest.TestCase):
    @classmethod
    def setUpClass(cls):
        """Find sound plans with suspects, whose trees need splits; those with the least trees come first."""
        source = random.Random(31)
        found = []
        while len(found) < 12:
            statement = lively_statement(source, references=2, conditions=3, probes=0.3)
            for hands in ("one", "many"):
                plan = source.choice(list(plans_of(statement, hands=hands)))
                word, *rest = decide(plan)
                if word == "sound" and rest[0] != () and any(tree[0] == "split" for _, tree in rest[0]):
                    found.append((len(repr(rest[0])), len(found), plan, rest[0]))
        cls.found = [some[2:] for some in sorted(found)]

    def plans(self):
        return self.found

    def holds(self, plan, thing):
        found = sound_holds(plan, thing)
        self.assertIs(type(found), bool)
        self.assertEqual(found, slow_sound(plan, thing))
        return found

    def test_what_decide_returns(self):
        for plan, trees in self.plans():
            self.assertTrue(self.holds(plan, trees))

    def test_without_suspects(self):
        plan = planned("delete t from x t")
        self.assertEqual(decide(plan), ("sound", ()))
        self.assertTrue(self.holds(plan, ()))
        for thing in (((),), [], (("missed", (1,), (0,)), ()), None):
            self.assertFalse(self.holds(plan, thing))

    def test_order_number_and_plan(self):
        count = 0
        for plan, trees in self.plans():
            for thing in (trees[1:], trees[:-1], trees + trees[-1:], trees + ((),), list(trees), dict(trees), (trees,)):
                self.assertFalse(self.holds(plan, thing))
            if len(trees) > 1:
                count += 1
                self.assertFalse(self.holds(plan, trees[::-1]))
                mixed = tuple((suspect, tree) for (suspect, _), (_, tree) in zip(trees, trees[::-1]))
                self.holds(plan, mixed)
        self.assertGreater(count, 3)

    def test_trees_of_another_plan(self):
        statement = Statement.read(SCHEMA, "update t from x t, y u\nwhere x.a <= y.c\nwhere y.c <= 2\nset a to 3")
        plans = [plan for plan in plans_of(statement) if decide(plan)[0] == "sound"]
        kinds = set()
        for plan in plans:
            for other in plans:
                kinds.add(self.holds(plan, decide(other)[1]))
        self.assertEqual(kinds, {True, False})

    def test_a_disturbed_plan_has_none(self):
        plan = planned("update t from x t\nwhere x.a <= 5\nset a to x.a + 2", None, (UP,))
        suspect, clauses = suspects_of(plan)[0]
        for thing in [(), ((suspect, ("ring", ())),), ((suspect, ("ring", tuple(some[0][0] for some in clauses))),),
                      ((suspect, ("split", clauses[0], (("ring", ()),))),), decide(plan)[1], decide(plan)]:
            self.assertFalse(self.holds(plan, thing))

    def test_variants(self):
        for plan, trees in self.plans()[:3]:
            for thing in variants(trees):
                self.holds(plan, thing)

    def test_bools_are_no_integers(self):
        plan, trees = next((plan, trees) for plan, trees in self.plans() if trees[0][0][1] == (1,))
        (kind, _, same), tree = trees[0]
        for suspect in [(kind, (True,), same), (kind, (1,), tuple(bool(some) if some < 2 else some for some in same))]:
            thing = ((suspect, tree), *trees[1:])
            self.assertEqual(thing, trees)
            self.assertFalse(self.holds(plan, thing))

    def test_any_value(self):
        plan, trees = self.plans()[0]
        for thing in ODD + [deep(60), (deep(59),) * len(trees), ((trees[0][0], deep(57)),) * len(trees),
                            tuple({} for _ in trees), tuple([] for _ in trees), tuple((1, 2) for _ in trees)]:
            self.assertIs(sound_holds(plan, thing), False)
            self.assertIs(disturbed_holds(plan, thing), False)


class Disturbed(unittest.TestCase):
    ADD = "update t from x t\nwhere x.a <= 5\nset a to x.a + 2"

    def data(self, rows, others=(), more=(), following=9):
        return tuple((name, following, tuple(enumerate(told))) for name, told in [("p", more), ("t", rows), ("u", others)])

    def test_weavings_by_one_hand(self):
        plan, data = planned(self.ADD, None, (UP,)), self.data([(1, 0), (4, 0)])
        for length in range(10):
            # The second raise of row 0 is the fourth event; the run has eight.
            self.assertIs(disturbed_holds(plan, (data, (0,) * length)), 4 <= length <= 8, length)
        for weaving in [(0, 0, 0, 1), (1, 0, 0, 0, 0), (0, 0, 0, 0, 1), (0, 0, 0, -1), [0] * 4, "0000", None, 4, (0, 0, 0, None),
                        (0, 0, 0, "0"), (0, 0, 0, (0,)), (False,) * 4, (0, 0, 0, False)]:
            self.assertIs(disturbed_holds(plan, (data, weaving)), False, weaving)
        self.assertIs(disturbed_holds(plan=plan, thing=(data, (0,) * 4)), True)

    def test_weavings_by_many_hands(self):
        plan, data = planned(self.ADD, None, (UP,), hands="many"), self.data([(1, 0), (4, 0)])
        for weaving, holds in [((0, 0, 0, 0), True), ((0, 0, 1, 1), True), ((5, 5, 3, 3), True), ((10 ** 30, 10 ** 30, 0, 0), True),
                               ((0, 0, 1), False), ((0, 1, 0, 1), False), ((0, 0, 1, -1), False), ((-1, -1, 0, 0), False),
                               ((0, 1, 0, 0), False), ((0, 0, 1, True), False), ((0, 0, 1, 1, 2, 2, 1, 1), True)]:
            self.assertIs(disturbed_holds(plan, (data, weaving)), holds, weaving)

    def test_a_hand_that_is_idle(self):
        plan, data = planned(self.ADD, None, (UP,), hands="many"), self.data([(4, 0), (1, 0)])
        self.assertIs(disturbed_holds(plan, (data, (0, 0, 0, 0))), True)
        self.assertIs(disturbed_holds(plan, (data, (0, 0, 0, 0, 0, 0, 0, 0))), True)
        self.assertIs(disturbed_holds(plan, (data, (0, 0, 0, 0, 0, 0, 0, 0, 0))), False)
        self.assertIs(disturbed_holds(plan, (data, (0, 0, 0, 0, 0, 0, 0, 0, 1))), False)

    def test_missing_matches_at_the_end_alone(self):
        plan = planned("delete t from x t, y u", ("y", "x"))
        data = self.data([(1, 0)], [(1,), (2,)])
        for length in range(7):
            self.assertIs(disturbed_holds(plan, (data, (0,) * length)), length == 4)

    def test_more_than_a_thousand_events(self):
        plan = planned("update t from x t\nwhere x.a <= 99999\nset a to x.a + 1", None, (UP,))
        data = self.data([(1, 0)])
        self.assertIs(disturbed_holds(plan, (data, (0,) * 1000)), True)
        self.assertIs(disturbed_holds(plan, (data, (0,) * 1001)), False)

    def test_data(self):
        plan, weaving = planned(self.ADD, None, (UP,)), (0,) * 4
        right = self.data([(1, 0), (4, 0)], [(3,)])
        self.assertIs(disturbed_holds(plan, (right, weaving)), True)
        p, t, u = right
        for data in [
                (t,), (p, t), (t, u), (p, u), (), (p, t, u, u), (u, t, p), (p, t, t, u), list(right), (p, list(t), u),
                (p, ("t", 9, [(0, (1, 0)), (1, (4, 0))]), u), (p, ("t", 9, ((0, [1, 0]), (1, (4, 0)))), u),
                (p, ("t", 1, t[2]), u), (p, ("t", True, t[2][:1]), u), (p, ("t", 9, t[2][::-1]), u),
                (p, ("t", 9, ((0, (1, 0)), (0, (4, 0)))), u), (p, ("t", 9, ((-1, (1, 0)), (1, (4, 0)))), u),
                (p, ("t", 9, ((False, (1, 0)), (1, (4, 0)))), u), (p, ("t", 9, ((0, (True, 0)), (1, (4, 0)))), u),
                (p, ("t", 9, ((0, (1, False)), (1, (4, 0)))), u), (p, ("t", 9, ((0, (1,)), (1, (4,)))), u),
                (p, ("t", "9", t[2]), u), (p, t, ("u", 9, ((0, (3,)), (1, (3,))))), (p, t, ("v", 9, ())), (p, t[:2], u),
                {"t": t}, None, "data", deep(59)]:
            self.assertIs(disturbed_holds(plan, (data, weaving)), False, data)
        for thing in [right, (right,), (right, weaving, ()), [right, weaving], (weaving, right), weaving, (p, t, u, weaving)]:
            self.assertIs(disturbed_holds(plan, thing), False)

    def test_databases_of_any_size(self):
        plan = planned(self.ADD, None, (UP,))
        data = self.data([(1, at) for at in range(400)], [(at,) for at in range(300)], following=1000)
        self.assertIs(disturbed_holds(plan, (data, (0,) * 800)), False)
        self.assertIs(disturbed_holds(plan, (data, (0,) * 802)), True)

    def test_what_decide_returns_and_not_quite(self):
        source = random.Random(32)
        count = 0
        while count < 8:
            plans = list(plans_of(lively_statement(source, keyed=0.2), hands=source.choice(("one", "many"))))
            plan = source.choice(plans)
            found = decide(plan)
            if found[0] == "sound":
                self.assertIs(disturbed_holds(plan, found[1]), False)
                continue
            count += 1
            self.assertIs(disturbed_holds(plan, found[1:]), True)
            self.assertIs(sound_holds(plan, found[1:]), False)
            self.assertIs(disturbed_holds(plan, found), False)
            for thing in variants(found[1:]):
                self.assertIs(disturbed_holds(plan, thing), slow_disturbed(plan, thing), thing)


if __name__ == "__main__":
    unittest.main()
