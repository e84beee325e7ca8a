"""Points 21 and 22: solutions and rings of atoms."""

import random
import time
import unittest

from ownwake.differences import ring_holds, solution_holds, solve
from samples import ODD, deep, is_plain
from variants import atom, fulfils, occurring, slow_ring, slow_solution, variants

A, B, C = ("written", (0,), "a"), ("written", (1,), "b"), ("other", (0,), "#")
FAR = ("first", (1, 0, 2), "q"), ("second", (12, 3), "abcdefgh")


def has_solution(atoms):
    """Whether atoms have a solution, by bounds that are lowered again and again."""
    low = {side: 0 for u, v, _ in atoms for side in (u, v)}
    for _ in range(len(low) + 1):
        changed = [(u, low[v] + k) for u, v, k in atoms if low[v] + k < low[u]]
        if not changed:
            return True
        for u, value in changed:
            low[u] = min(low[u], value)
    return False


def as_clauses(atoms):
    return tuple((((some,),)) for some in atoms)


class SolveTest(unittest.TestCase):
    def check(self, atoms, word=None):
        """Whether what is returned is right, and is this."""
        found = solve(atoms)
        self.assertTrue(is_plain(found))
        self.assertEqual(len(found), 2)
        self.assertEqual(found[0], "solution" if has_solution(atoms) else "ring")
        if word is not None:
            self.assertEqual(found[0], word)
        if found[0] == "ring":
            self.assertTrue(slow_ring(atoms, found[1]))
            self.assertIs(ring_holds(atoms, found[1]), True)
        else:
            self.assertTrue(slow_solution(as_clauses(atoms), found[1]))
            self.assertIs(solution_holds(as_clauses(atoms), found[1]), True)
            self.assertEqual([unknown for unknown, _ in found[1]], occurring(as_clauses(atoms)))
        return found


class Solve(SolveTest):
    def test_no_atoms(self):
        self.assertEqual(solve(()), ("solution", ()))
        self.assertEqual(solve(atoms=()), ("solution", ()))

    def test_one_atom(self):
        for k in (-3, 0, 5, -10 ** 45):
            for one in ((A, B, k), (A, (), k), ((), A, k), (FAR[0], FAR[1], k)):
                self.check((one,), "solution")

    def test_nothing_stands_for_zero(self):
        atoms = (atom("w0a - 0 <= 7"), atom("0 - w0a <= -7"))
        self.assertEqual(self.check(atoms), ("solution", ((A, 7),)))
        atoms = (atom("w0a - 0 <= -2"), atom("0 - w0a <= 2"), atom("w1b - w0a <= 4"), atom("w0a - w1b <= -4"))
        self.assertEqual(self.check(atoms), ("solution", ((A, -2), (B, 2))))
        self.check((atom("w0a - 0 <= 7"), atom("0 - w0a <= -8")), "ring")

    def test_equalities_leave_one_solution(self):
        atoms = tuple(atom(f"w{i}a - w{i + 1}a <= {k}") for i, k in enumerate((3, -1, 4)))
        back = tuple((v, u, -k) for u, v, k in atoms)
        fixed = (atom("w3a - 0 <= 9"), atom("0 - w3a <= -9"))
        expected = tuple((("written", (i,), "a"), value) for i, value in enumerate((15, 12, 13, 9)))
        self.assertEqual(self.check(atoms + back + fixed), ("solution", expected))
        self.assertEqual(self.check(fixed + back[::-1] + atoms), ("solution", expected))

    def test_rings(self):
        self.assertEqual(set(self.check((atom("w0a - w1b <= 0"), atom("w1b - w0a <= -1")))[1]),
                         {atom("w0a - w1b <= 0"), atom("w1b - w0a <= -1")})
        self.check((atom("w0a - w1b <= 1"), atom("w1b - w0a <= -1")), "solution")
        self.check((atom("w0a - 0 <= 1"), atom("0 - w1b <= 1"), atom("w1b - w0a <= -3")), "ring")
        self.check((atom("w0a - 0 <= 1"), atom("0 - w1b <= 1"), atom("w1b - w0a <= -2")), "solution")

    def test_the_same_unknowns_with_other_integers(self):
        # Of several atoms over two unknowns only the sharpest ones make a ring.
        atoms = tuple(atom(f"w0a - w1b <= {k}") for k in (5, 3, 2)) + tuple(atom(f"w1b - w0a <= {k}") for k in (0, -3))
        self.assertEqual(sum(some[2] for some in self.check(atoms, "ring")[1]), -1)

    def test_order_and_repetition(self):
        source = random.Random(21)
        for _ in range(300):
            atoms = self.some(source, 4, 8, -3, 4)
            word = self.check(atoms)[0]
            mixed = list(atoms) + source.sample(atoms, source.randint(0, len(atoms)))
            source.shuffle(mixed)
            self.check(tuple(mixed), word)

    def some(self, source, unknowns, most, low, high):
        names = [(), A, B, C, *FAR, *[("other", (i, i), "x") for i in range(60)]][:unknowns]
        return tuple((*source.sample(names, 2), source.randint(low, high)) for _ in range(source.randint(0, most)))

    def test_many_small_systems(self):
        source = random.Random(22)
        words = []
        for _ in range(3000):
            words.append(self.check(self.some(source, source.randint(2, 7), 14, -4, 6))[0])
        self.assertGreater(min(words.count("ring"), words.count("solution")), 500)

    def test_great_integers(self):
        big = 10 ** 60
        self.check((atom(f"w0a - w1b <= {big}"), atom(f"w1b - 0 <= {-big}"), atom("0 - w0a <= 0")), "solution")
        self.check((atom(f"w0a - w1b <= {big}"), atom(f"w1b - 0 <= {-big}"), atom("0 - w0a <= -1")), "ring")

    def test_rings_of_many_atoms(self):
        names = [(), *[("written", (i,), "a") for i in range(60)]]
        ring = tuple((one, other, 0) for one, other in zip(names, names[1:])) + ((names[-1], (), -1),)
        source = random.Random(23)
        for _ in range(20):
            mixed = list(ring) * 6
            source.shuffle(mixed)
            self.assertEqual(set(self.check(tuple(mixed), "ring")[1]), set(ring))
        self.check(ring[:-1] + ((names[-1], (), 0),), "solution")

    def test_the_greatest_systems(self):
        names = [(), *[("written", (i, j), "a") for i in range(10) for j in range(6)]]
        source = random.Random(24)
        for _ in range(30):
            at = {name: source.randint(-10 ** 12, 10 ** 12) for name in names}
            pairs = [source.sample(names, 2) for _ in range(399)]
            atoms = [(u, v, at[u] - at[v] + source.choice((0, 0, 1, 9))) for u, v in pairs]
            begun = time.time()
            self.check(tuple(atoms), "solution")
            u, v, k = atoms[0]
            atoms.append((v, u, -k - 1))
            self.check(tuple(atoms), "ring")
            self.assertLess(time.time() - begun, 3)


class Holding(unittest.TestCase):
    ATOMS = (atom("w0a - w1b <= 1"), atom("w1b - o0# <= 1"), atom("o0# - w0a <= -3"), atom("w1b - w0a <= -2"),
             atom("0 - w0a <= 0"), atom("w0a - 0 <= 0"), atom("w0a - 0 <= -1"), atom("o0# - w1b <= 1"))
    RINGS = (ATOMS[:3], ATOMS[1:3] + ATOMS[:1], ATOMS[2:3] + ATOMS[:2], (ATOMS[0], ATOMS[3]), (ATOMS[4], ATOMS[6]))

    def test_rings(self):
        for ring in self.RINGS:
            self.assertIs(ring_holds(self.ATOMS, ring), True)
            self.assertIs(ring_holds(atoms=self.ATOMS[::-1] * 2, thing=ring), True)

    def test_what_is_no_ring(self):
        one, two, three, four, zero, back, low, up = self.ATOMS
        for thing in [(), (one,), (one, two), (three, two, one), (one, three, two), (one, four, one, four),
                      (zero, back), (two, up), (one, two, three, one, two, three), (one, one), list(self.RINGS[0]),
                      (one, two, atom("o0# - w0a <= -4")), (zero, low, zero, low), ((one, two, three),), (low, zero, back)]:
            self.assertIs(ring_holds(self.ATOMS, thing), False, thing)
        # No atom twice, but an unknown perhaps.
        atoms = (atom("w0a - w1b <= 0"), atom("w1b - w0a <= -1"), atom("w0a - o0# <= 0"), atom("o0# - w0a <= -1"))
        self.assertIs(ring_holds(atoms, atoms), True)

    def test_variants_of_rings(self):
        for ring in self.RINGS:
            for thing in variants(ring):
                self.assertIs(ring_holds(self.ATOMS, thing), slow_ring(self.ATOMS, thing), thing)

    def test_bools_are_no_integers(self):
        atoms = (atom("w0a - w1b <= 0"), atom("w1b - w0a <= -1"))
        self.assertTrue(ring_holds(atoms, atoms))
        for thing in [((A, B, False), atoms[1]), ((("written", (False,), "a"), B, 0), atoms[1]),
                      (atoms[0], (("written", (True,), "b"), A, -1))]:
            self.assertEqual(thing, atoms)
            self.assertIs(ring_holds(atoms, thing), False)
        clauses = as_clauses(atoms[:1])
        self.assertTrue(solution_holds(clauses, ((A, 0), (B, 1))))
        for thing in [((A, False), (B, 1)), ((A, 0), (B, True)), ((A, 0), (("written", (True,), "b"), 1))]:
            self.assertIs(solution_holds(clauses, thing), False)

    def test_any_value(self):
        for thing in ODD + [[A], ({},), (deep(60),), ((A, B, 0), 0), ((A, B, 0), (A, {}, 0)), ((A, [B], 0),) * 2, "ring",
                            ((A, 0), (A, 0)), ({"a": 1}, {"a": 1}), (None, None), ((None,) * 3,) * 2]:
            self.assertIs(ring_holds(self.ATOMS, thing), False)
            self.assertIs(ring_holds((), thing), False)
            self.assertIs(solution_holds(as_clauses(self.ATOMS), thing), False)
            self.assertIs(solution_holds((), thing), thing == () and isinstance(thing, tuple))

    def test_large_values(self):
        self.assertIs(ring_holds(self.ATOMS, self.RINGS[3] * 3000), False)
        self.assertIs(ring_holds(self.ATOMS, [self.RINGS] * 2000), False)
        self.assertIs(solution_holds((), ((A, 1),) * 9000), False)


class Solutions(unittest.TestCase):
    CLAUSES = ((((A, B, 1),),), (((A, (), -4),), ((B, A, -2), (C, A, 0))), ((((), C, 5),),))

    def test_which_hold(self):
        for values, holds in [((-4, -3, -5), True), ((-4, -5, -5), True), ((-4, -6, 0), False), ((-4, -5, -6), False),
                              ((1, 0, 2), False), ((1, -1, 1), False), ((3, 1, 3), False), ((1, 0, 1), False)]:
            pairs = ((C, values[2]), (A, values[0]), (B, values[1]))
            self.assertEqual(fulfils(self.CLAUSES, dict(pairs)), holds)
            self.assertIs(solution_holds(self.CLAUSES, pairs), holds, values)

    def test_each_unknown_once_and_no_other(self):
        right = ((C, -5), (A, -4), (B, -3))
        self.assertIs(solution_holds(clauses=self.CLAUSES, thing=right), True)
        for thing in [right[:2], right[1:], right + ((FAR[0], 0),), right[::-1], (right[1], right[0], right[2]),
                      right[:1] + right, ((C, -5), (A, -4), (A, -4), (B, -3)), (((), 0), *right), list(right), dict(right),
                      tuple(list(pair) for pair in right), ((C, -5, 0), *right[1:]), ((C,), *right[1:])]:
            self.assertIs(solution_holds(self.CLAUSES, thing), False, thing)

    def test_unknowns_of_alternatives_that_do_not_hold_are_asked_for_too(self):
        clauses = ((((A, (), 0),), ((FAR[0], B, -1), (B, FAR[0], 0))),)
        self.assertIs(solution_holds(clauses, ((FAR[0], 7), (A, 0), (B, 7))), True)
        self.assertIs(solution_holds(clauses, ((A, 0),)), False)

    def test_variants_of_solutions(self):
        right = ((C, -5), (A, -4), (B, -3))
        for thing in variants(right):
            self.assertIs(solution_holds(self.CLAUSES, thing), slow_solution(self.CLAUSES, thing), thing)

    def test_clauses_that_hold_always_or_never(self):
        self.assertIs(solution_holds((), ()), True)
        self.assertIs(solution_holds((((),),), ()), True)
        self.assertIs(solution_holds(((),), ()), False)
        self.assertIs(solution_holds(((), (((A, (), 0),),)), ((A, 0),)), False)
        self.assertIs(solution_holds((((), ((A, (), 0),)),), ((A, 9),)), True)


if __name__ == "__main__":
    unittest.main()
