"""Points 35 and 3: papers of a choice are looked at, whoever wrote them."""

import random
import unittest

from lively import lively_statement
from ownwake.choicechecks import choice_holds
from ownwake.choosing import choose
from ownwake.plans import plans_of
from ownwake.ratios import Ratio
from ownwake.schemas import Schema
from ownwake.statements import Statement
from ownwake.suspects import suspects_of
from samples import ODD, deep
from test_choosing import drawn, in_question
from test_costs import slow_cost
from test_soundchecks import slow_disturbed, slow_sound
from variants import drawn_tree, strict, variants

SCHEMA = Schema(("t", ("a", "b"), ("a",), ()), ("u", ("c",), ("c",), ()))
# Upwards and downwards rows can be met again; the plan by the heap has no suspects.
COPY = Statement.read(SCHEMA, "update t from x t\nwhere x.a <= 5\nset a to x.b")
# All cheaper plans are disturbed, by which x comes second.
PAIRS = Statement.read(SCHEMA, "update t from x t, y u\nwhere x.a <= y.c\nwhere y.c <= 7\nset a to x.b")
THIRDS = (Ratio(1, 3), Ratio(1, 3))


# The plans in question in the order of their costs, by all on which these depend.
RANKED = {}


def slow_choice(statement, sizes, shares, hands, thing):
    """Whether a value is a paper, by the words of the document."""
    if type(thing) is not tuple or len(thing) != 3 or type(thing[2]) is not tuple:
        return False
    data, trees, cheaper = thing
    told = (statement.schema.tables, statement.parts, sizes, tuple(str(share) for share in shares), hands)
    if told not in RANKED:
        RANKED[told] = sorted(in_question(statement, hands), key=lambda some: slow_cost(some, sizes, shares))
    ranked = RANKED[told]
    if len(cheaper) >= len(ranked) or not strict(data, ranked[len(cheaper)].data):
        return False
    if not slow_sound(ranked[len(cheaper)], trees):
        return False
    return all(type(part) is tuple and len(part) == 3 and strict(part[0], plan.data) and slow_disturbed(plan, part[1:])
               for part, plan in zip(cheaper, ranked))


class CheckTest(unittest.TestCase):
    def check(self, statement, sizes, shares, hands, thing):
        """Whether a value holds, if it is as by the words of the document."""
        before = repr(thing)
        found = choice_holds(statement, sizes, shares, hands, thing)
        self.assertIs(type(found), bool)
        self.assertIs(found, slow_choice(statement, sizes, shares, hands, thing), thing)
        self.assertEqual(repr(thing), before)
        return found


class Papers(CheckTest):
    def test_what_choose_returns(self):
        source = random.Random(37)
        lengths = []
        for _ in range(120):
            statement = lively_statement(source, probes=0.3, keyed=0.1, conditions=source.choice((0, 1, 2, 3)))
            sizes, shares = drawn(source, statement)
            for hands in ("one", "many"):
                paper = choose(statement, sizes, shares, hands=hands)[1]
                self.assertTrue(self.check(statement, sizes, shares, hands, paper))
                lengths.append((len(paper[1]) > 0, len(paper[2]) > 1))
        self.assertEqual(set(lengths), {(one, other) for one in (True, False) for other in (True, False)})

    def test_by_name(self):
        paper = choose(COPY, (("t", 9),), THIRDS[:1])[1]
        self.assertIs(choice_holds(statement=COPY, sizes=(("t", 9),), shares=THIRDS[:1], hands="one", thing=paper), True)

    def test_trees_by_another_hand(self):
        source = random.Random(38)
        count = 0
        while count < 15:
            statement = lively_statement(source, references=2, probes=0.2, conditions=2)
            sizes, shares = drawn(source, statement)
            for hands in ("one", "many"):
                plan, (data, trees, cheaper) = choose(statement, sizes, shares, hands=hands)
                told = suspects_of(plan)
                if told == () or max(len(clauses) for _, clauses in told) > 12:
                    continue
                others = tuple((suspect, drawn_tree(source, clauses)) for suspect, clauses in told)
                self.assertTrue(self.check(statement, sizes, shares, hands, (data, others, cheaper)))
                count += others != trees

    def moved(self, data, name, by):
        """Data in which the rows of a table have greater numbers."""
        return tuple((some, following + by, tuple((number + by, values) for number, values in rows))
                     if some == name else (some, following, rows) for some, following, rows in data)

    def test_other_databases(self):
        _, (data, trees, cheaper) = choose(COPY, (("t", 9),), THIRDS[:1])
        self.assertEqual(len(cheaper), 1)
        (told, shown, weaving), = cheaper
        for by in (1, 7, 10 ** 12):
            other = self.moved(shown, "t", by)
            self.assertTrue(self.check(COPY, (("t", 9),), THIRDS[:1], "one", (data, trees, ((told, other, weaving),))))
        # Rows that do not match, in front of the others and behind them, and rows of another table.
        (name, following, rows), u = shown
        for more in [((following + 3, (9, 9)),), ((following, (6, 6)), (following + 1, (7, -7)))]:
            other = ((name, following + 9, rows + more), u)
            for longer in range(len(weaving) + 3):
                self.check(COPY, (("t", 9),), THIRDS[:1], "one", (data, trees, ((told, other, (0,) * longer),)))
            self.assertTrue(self.check(COPY, (("t", 9),), THIRDS[:1], "one", (data, trees, ((told, other, weaving + (0,) * 0),))))
        other = ((name, following, rows), ("u", 50, tuple((number, (number,)) for number in range(50))))
        self.assertTrue(self.check(COPY, (("t", 9),), THIRDS[:1], "one", (data, trees, ((told, other, weaving),))))

    def test_other_weavings(self):
        sizes, shares = (("t", 9), ("u", 3)), THIRDS
        found = set()
        for hands in ("one", "many"):
            _, (data, trees, cheaper) = choose(PAIRS, sizes, shares, hands=hands)
            self.assertGreater(len(cheaper), 0)
            for at, (told, shown, weaving) in enumerate(cheaper):
                for other in [weaving + (0,), weaving + weaving[-1:], weaving[:-1], weaving[1:], tuple(hand + 4 for hand in weaving),
                              (0,) * len(weaving), (), (0,), weaving + (99,), weaving + (-1,)]:
                    thing = cheaper[:at] + ((told, shown, other),) + cheaper[at + 1:]
                    found.add((hands, told[-1], self.check(PAIRS, sizes, shares, hands, (data, trees, thing))))
        self.assertIn(("many", "many", True), found)
        self.assertIn(("many", "many", False), found)
        self.assertIn(("one", "one", False), found)


class NoPapers(CheckTest):
    def test_data_of_another_plan(self):
        for hands in ("one", "many"):
            _, (data, trees, cheaper) = choose(PAIRS, (("t", 9), ("u", 3)), THIRDS, hands=hands)
            for plan in in_question(PAIRS, "one") + in_question(PAIRS, "many"):
                found = self.check(PAIRS, (("t", 9), ("u", 3)), THIRDS, hands, (plan.data, trees, cheaper))
                self.assertIs(found, plan.data == data)

    def test_plans_ahead(self):
        for statement, sizes, shares in [(PAIRS, (("t", 9), ("u", 3)), THIRDS), (COPY, (("t", 9),), THIRDS[:1])]:
            for hands in ("one", "many"):
                _, (data, trees, cheaper) = choose(statement, sizes, shares, hands=hands)
                self.assertGreater(len(cheaper), 0)
                others = [(), cheaper[1:], cheaper[:-1], cheaper + cheaper[-1:], cheaper[:1] + cheaper, list(cheaper), (cheaper,)]
                if len(cheaper) > 1:
                    others += [cheaper[::-1], cheaper[1:] + cheaper[:1]]
                for other in others:
                    self.assertIs(self.check(statement, sizes, shares, hands, (data, trees, other)), False)

    def test_a_plan_behind_the_choice(self):
        # It is sound as well, and costs more; the plan that is chosen has nothing by which it is disturbed.
        sizes = (("t", 9),)
        plan, (data, trees, cheaper) = choose(COPY, sizes, THIRDS[:1])
        shown, weaving = cheaper[0][1:]
        for later in plans_of(COPY):
            if later.data > data:
                thing = (later.data, (), cheaper + ((data, shown, weaving),))
                self.assertIs(self.check(COPY, sizes, THIRDS[:1], "one", thing), False)

    def test_the_first_plan_that_is_not_sound(self):
        _, (_, _, cheaper) = choose(COPY, (("t", 9),), THIRDS[:1])
        for trees in ((), suspects_of(next(plan for plan in plans_of(COPY) if plan.data == cheaper[0][0]))):
            self.assertIs(self.check(COPY, (("t", 9),), THIRDS[:1], "one", (cheaper[0][0], trees, ())), False)

    def test_other_sizes_shares_and_hands(self):
        text = "insert t from x t, y u\nwhere x.b <= y.c\nset a to 1\nset b to y.c + 1"
        statement = Statement.read(SCHEMA, text)
        share = (Ratio(1, 3),)
        found = {}
        for hands in ("one", "many"):
            for sizes in ((("t", 900), ("u", 3)), (("t", 3), ("u", 900)), (("t", 0), ("u", 0))):
                paper = choose(statement, sizes, share, hands=hands)[1]
                found.setdefault(paper, []).append((sizes, hands))
        self.assertGreater(len(found), 3)
        for paper in found:
            for sizes in ((("t", 900), ("u", 3)), (("t", 3), ("u", 900)), (("t", 0), ("u", 0))):
                for hands in ("one", "many"):
                    self.assertIs(self.check(statement, sizes, share, hands, paper), (sizes, hands) in found[paper])
        paper = choose(COPY, (("t", 9),), (Ratio(1),))[1]
        found = [self.check(COPY, (("t", 9),), (Ratio(*pair),), "one", paper) for pair in [(1, 1), (1, 3), (0, 1)]]
        self.assertEqual(found, [True, choose(COPY, (("t", 9),), (Ratio(1, 3),))[1] == paper,
                                 choose(COPY, (("t", 9),), (Ratio(0),))[1] == paper])

    def test_trees(self):
        source = random.Random(39)
        count = 0
        while count < 12:
            statement = lively_statement(source, references=2, probes=0.2, conditions=3)
            sizes, shares = drawn(source, statement)
            _, (data, trees, cheaper) = choose(statement, sizes, shares, hands="many")
            if len(trees) < 2:
                continue
            count += 1
            mixed = tuple((suspect, tree) for (suspect, _), (_, tree) in zip(trees, trees[1:] + trees[:1]))
            suspect, tree = trees[0]
            others = [trees[1:], trees[:-1], trees[::-1], trees + trees[-1:], trees[:1] + trees, (), mixed, list(trees),
                      ((suspect, ("ring", ())),) + trees[1:], ((trees[1][0], tree),) + trees[1:]]
            if tree[0] == "ring":
                others.append(((suspect, ("ring", tree[1][1:])),) + trees[1:])
            for other in others:
                self.check(statement, sizes, shares, "many", (data, other, cheaper))
            self.assertIs(choice_holds(statement, sizes, shares, "many", (data, trees[1:], cheaper)), False)
            self.assertIs(choice_holds(statement, sizes, shares, "many", (data, list(trees), cheaper)), False)

    def test_databases(self):
        sizes = (("t", 9),)
        _, (data, trees, ((told, shown, weaving),)) = choose(COPY, sizes, THIRDS[:1])
        (name, following, rows), u = shown
        for other in [(), (u,), ((name, following, rows),), ((name, following, rows[1:]), u), ((name, following, ()), u),
                      (u, (name, following, rows)), [(name, following, rows), u], ((name, 0, rows), u), shown * 2]:
            self.assertIs(self.check(COPY, sizes, THIRDS[:1], "one", (data, trees, ((told, other, weaving),))), False)
        for other in [(), weaving[:-1], weaving[:1], list(weaving), (False,) * len(weaving), (1,) * len(weaving), None]:
            self.assertIs(self.check(COPY, sizes, THIRDS[:1], "one", (data, trees, ((told, shown, other),))), False)

    def test_variants(self):
        source = random.Random(40)
        papers = [(COPY, (("t", 9),), THIRDS[:1], hands) for hands in ("one", "many")]
        while len(papers) < 6:
            statement = lively_statement(source, probes=0.3, conditions=2)
            sizes, shares = drawn(source, statement)
            hands = source.choice(("one", "many"))
            paper = choose(statement, sizes, shares, hands=hands)[1]
            if paper[1] != () and 1 <= len(paper[2]) <= 3 and len(repr(paper)) < 1500:
                papers.append((statement, sizes, shares, hands))
        for statement, sizes, shares, hands in papers:
            things = list(variants(choose(statement, sizes, shares, hands=hands)[1]))
            for thing in source.sample(things, min(len(things), 80)):
                self.check(statement, sizes, shares, hands, thing)

    def test_bools_are_no_integers(self):
        plan, (data, trees, cheaper) = choose(COPY, (("t", 9),), THIRDS[:1])
        order, paths, hold, marks, keep, hands = data
        for other in [(order, paths, False, marks, keep, hands), (order, paths, hold, marks, 0, hands)]:
            self.assertEqual(other, data)
            self.assertIs(self.check(COPY, (("t", 9),), THIRDS[:1], "one", (other, trees, cheaper)), False)
        (told, shown, weaving), = cheaper
        other = ((*told[:2], False, *told[3:]), shown, weaving)
        self.assertEqual(other, cheaper[0])
        self.assertIs(self.check(COPY, (("t", 9),), THIRDS[:1], "one", (data, trees, (other,))), False)

    def test_any_value(self):
        _, (data, trees, cheaper) = choose(COPY, (("t", 9),), THIRDS[:1])
        for thing in ODD + [deep(60), (deep(59),) * 3, (data, trees, deep(58)), (data, deep(58), cheaper), (data, {}, ()),
                            (data, trees, ({},)), (data, trees, ((),)), (data, trees, (({}, [], None),)), ([], [], []),
                            ({}, {}, {}), (data, trees), (data, trees, cheaper, ()), [data, trees, cheaper],
                            (None, trees, cheaper), ((), (), ()), (data, None, cheaper), (data, trees, None)]:
            self.assertIs(choice_holds(COPY, (("t", 9),), THIRDS[:1], "one", thing), False)


if __name__ == "__main__":
    unittest.main()
