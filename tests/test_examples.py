"""The document's examples, as far as the modules that they use are there."""

import unittest

from ownwake.databases import Database
from ownwake.errors import Duplicate
from ownwake.lives import LiveRun
from ownwake.meanings import meaning
from ownwake.plans import Plan
from ownwake.schemas import Schema
from ownwake.statements import Statement

SCHEMA = Schema(("t", ("a", "b"), ("a",), ()))
DATA = Database(SCHEMA, (("t", 2, ((0, (1, 0)), (1, (4, 0)))),))
ADD = Statement(SCHEMA, "update", "t", (("x", "t"),), conditions=((("x", "a"), "<=", None, 5),),
                settings=(("a", ("x", "a"), 2),))
UP = Plan(ADD, None, (("up", "a"),))
KEYED = Schema(("t", ("k",), ("k",), ("k",)))
TWO = Database(KEYED, (("t", 2, ((0, (1,)), (1, (2,)))),))


class Examples(unittest.TestCase):
    def test_texts(self):
        self.assertEqual([SCHEMA.text, DATA.text, ADD.text, UP.lines], [
            'table t (a, b) index a', 't next 2\n0: 1, 0\n1: 4, 0',
            'update t from x t\nwhere x.a <= 5\nset a to x.a + 2', ('1: scan x up a',)])

    def test_meaning(self):
        self.assertEqual([meaning(ADD, DATA)[0], meaning(ADD, DATA)[1].data], [
            (((0,), ()), ((1,), ())), (('t', 2, ((0, (3, 0)), (1, (6, 0)))),)])

    def test_live_run(self):
        run = LiveRun(UP, DATA)
        self.assertEqual([run.go(), len(run), run.events[:3], run.data], [
            True, 8, (('fetch', 0, 1, 0), ('raise', 0, (0,)), ('fetch', 0, 1, 0)),
            (('t', 2, ((0, (7, 0)), (1, (6, 0)))),)])

    def test_a_statement_that_is_refused(self):
        five = Statement(KEYED, "update", "t", (("x", "t"),), settings=(("k", None, 5),))
        with self.assertRaises(Duplicate) as caught:
            meaning(five, TWO)
        self.assertEqual((caught.exception.column, caught.exception.value), ('k', 5))
        self.assertEqual(repr(caught.exception), "Duplicate('k', 5)")


if __name__ == "__main__":
    unittest.main()
