"""Point 15: at which level something is tested, and which conditions bound a scan."""

import unittest

from ownwake.levels import bounds_scan, condition_level, probe_level
from ownwake.plans import Plan
from ownwake.schemas import Schema
from ownwake.statements import Statement

SCHEMA = Schema(("p", ("q",), (), ()), ("t", ("a", "b"), ("a", "b"), ()), ("u", ("c",), ("c",), ()))
A, B, C = ("x", "a"), ("x", "b"), ("y", "c")
CONDITIONS = ((A, "<=", None, 5), (A, "!=", None, 2), (B, "=", A, 1), (A, "=", C, 0), (C, "<=", B, 0))
PROBE = ("some", "p", (), ("q", "=", C, 0))
STATEMENT = Statement(SCHEMA, "delete", "t", (("x", "t"), ("y", "u")), conditions=CONDITIONS, probes=(PROBE,))
HEAP, UP, DOWN = ("heap",), ("up", "a"), ("down", "c")


class LevelsOfTests(unittest.TestCase):
    def test_levels(self):
        for order, levels, level in [(("x", "y"), [1, 1, 1, 2, 2], 2), (("y", "x"), [2, 2, 2, 2, 2], 1)]:
            self.assertEqual([condition_level(order, some) for some in CONDITIONS], levels)
            self.assertEqual(probe_level(order, PROBE), level)

    def test_bounds(self):
        for order, paths, first, second in [
                (("x", "y"), (HEAP, HEAP), [], []), (("x", "y"), (UP, HEAP), [0], []), (("x", "y"), (UP, DOWN), [0], [3, 4]),
                (("x", "y"), (("up", "b"), DOWN), [], [3, 4]), (("y", "x"), (DOWN, UP), [], [0, 3]),
                (("y", "x"), (HEAP, ("down", "b")), [], [4])]:
            plan = Plan(STATEMENT, order, paths)
            found = [[at for at in range(5) if bounds_scan(plan, level, CONDITIONS[at])] for level in (1, 2)]
            self.assertEqual(found, [first, second], (order, paths))


if __name__ == "__main__":
    unittest.main()
