"""The document's examples."""

import unittest

from ownwake.chains import links, raised_in_all
from ownwake.choosing import choose
from ownwake.consoles import Console
from ownwake.costs import cost
from ownwake.databases import Database
from ownwake.deciding import decide
from ownwake.errors import Duplicate
from ownwake.keylooks import key_look, run_by_rows
from ownwake.lives import LiveRun
from ownwake.meanings import meaning
from ownwake.plans import Plan
from ownwake.ratios import Ratio
from ownwake.schemas import Schema
from ownwake.statements import Statement
from ownwake.suspects import suspects_of
from ownwake.verdicts import verdict

SCHEMA = Schema(("t", ("a", "b"), ("a",), ()))
DATA = Database(SCHEMA, (("t", 2, ((0, (1, 0)), (1, (4, 0)))),))
ADD = Statement(SCHEMA, "update", "t", (("x", "t"),), conditions=((("x", "a"), "<=", None, 5),),
                settings=(("a", ("x", "a"), 2),))
UP = Plan(ADD, None, (("up", "a"),))
KEYED = Schema(("t", ("k",), ("k",), ("k",)))
TWO = Database(KEYED, (("t", 2, ((0, (1,)), (1, (2,)))),))


class Examples(unittest.TestCase):
    def test_texts(self):
        self.assertEqual([SCHEMA.text, DATA.text, ADD.text, UP.lines], [
            'table t (a, b) index a', 't next 2\n0: 1, 0\n1: 4, 0',
            'update t from x t\nwhere x.a <= 5\nset a to x.a + 2', ('1: scan x up a',)])

    def test_meaning(self):
        self.assertEqual([meaning(ADD, DATA)[0], meaning(ADD, DATA)[1].data], [
            (((0,), ()), ((1,), ())), (('t', 2, ((0, (3, 0)), (1, (6, 0)))),)])

    def test_live_run(self):
        run = LiveRun(UP, DATA)
        self.assertEqual([run.go(), len(run), run.events[:3], run.data, verdict(run)], [
            True, 8, (('fetch', 0, 1, 0), ('raise', 0, (0,)), ('fetch', 0, 1, 0)),
            (('t', 2, ((0, (7, 0)), (1, (6, 0)))),), ('again', (0,), (0,))])

    def test_its_only_suspect(self):
        self.assertEqual([suspects_of(UP), decide(UP)[0], decide(UP.turned("x"))], [
            ((('raised', (1,), (0,)), ((((('written', (0,), 'a'), (), 3),),), (((('written', (0,), 'a'), (), 5),),))),),
            'disturbed', ('sound', ())])

    def test_chains(self):
        self.assertEqual([links(UP, DATA, 0), links(UP, DATA, 1), raised_in_all(UP, DATA)], [3, 1, 4])

    def test_the_cheapest_sound_plan(self):
        found = [str(cost(UP, (("t", 9),), (Ratio(1, 3),))), choose(ADD, (("t", 9),), (Ratio(1, 3),))[1]]
        self.assertEqual(found, ['3', ((('x',), (('down', 'a'),), 0, (), False, 'one'), (), ())])

    def test_keys_row_by_row(self):
        following = Statement(KEYED, "update", "t", (("x", "t"),), conditions=((("x", "k"), "<=", None, 9),),
                              settings=(("k", ("x", "k"), 1),))
        looks = [key_look(Plan(following))[0], key_look(Plan(following, None, (("down", "k"),)))[0]]
        self.assertEqual([run_by_rows(Plan(following), TWO), *looks], [('refused', 0, 'k', 2), 'refuses', 'never'])

    def test_a_statement_that_is_refused(self):
        five = Statement(KEYED, "update", "t", (("x", "t"),), settings=(("k", None, 5),))
        with self.assertRaises(Duplicate) as caught:
            meaning(five, TWO)
        self.assertEqual((caught.exception.column, caught.exception.value), ('k', 5))
        self.assertEqual(repr(caught.exception), "Duplicate('k', 5)")

    def test_a_console(self):
        console = Console()
        add = "update t from x t; where x.a <= 5; set a to x.a + 2"
        made = [console.say("table t (a) index a"), console.say("row t 1"), console.say("row t 4")]
        self.assertEqual(made, ["ok", "0", "1"])
        found = [console.say("do " + add), console.say("show t"), console.say("sound " + add), console.say("plan " + add)]
        self.assertEqual(found, ['0; 1', '0: 3; 1: 6', 'sound', '1: scan x down a'])


if __name__ == "__main__":
    unittest.main()
