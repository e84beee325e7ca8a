"""Point 22: solutions and trees of clauses."""

import itertools
import random
import time
import unittest

from ownwake.clauses import settle, tree_holds
from ownwake.differences import solution_holds, solve
from samples import ODD, deep, is_plain
from variants import atom, clause, occurring, slow_solution, slow_tree, variants


def unknown(i, column="a"):
    return "written", (i,), column


def can_hold(clauses):
    """Whether some choice of an alternative of each clause has a solution."""
    for choice in itertools.product(*clauses):
        if solve(tuple(some for alternative in choice for some in alternative))[0] == "solution":
            return True
    return False


def size(tree):
    return 1 + sum(size(some) for some in tree[2]) if tree[0] == "split" else 1


class SettleTest(unittest.TestCase):
    def check(self, clauses, word=None, slowly=True):
        """Whether what is returned is right, and is this."""
        found = settle(clauses)
        self.assertTrue(is_plain(found))
        if word is not None:
            self.assertEqual(found[0], word)
        if found[0] == "solution":
            self.assertIs(solution_holds(clauses, found[1]), True)
            self.assertTrue(slow_solution(clauses, found[1]))
            self.assertEqual([some for some, _ in found[1]], occurring(clauses))
        else:
            self.assertEqual(found[0], "tree")
            self.assertIs(tree_holds(clauses, found[1]), True)
            self.assertTrue(not slowly or slow_tree(clauses, found[1]))
        return found


class Settle(SettleTest):
    def test_no_clauses(self):
        self.assertEqual(settle(()), ("solution", ()))
        self.assertEqual(settle(clauses=()), ("solution", ()))

    def test_without_alternatives_or_atoms(self):
        self.assertEqual(settle(((),)), ("tree", ("split", (), ())))
        self.assertEqual(settle((((),),)), ("solution", ()))
        self.check(((), clause("w0a - 0 <= 1")), "tree")
        self.check((((),), clause("w0a - 0 <= 1")), "solution")
        # The alternative without atoms holds, so the other one need not; its unknowns are asked for all the same.
        self.check((((), (atom("w0a - 0 <= 1"),)), clause("0 - w0a <= -9")), "solution")
        self.check(((), clause("w0a - 0 <= 1"), clause("0 - w0a <= -2")), "tree")

    def test_one_alternative_each(self):
        self.check((clause("w0a - 0 <= 1"), clause("0 - w0a <= -1")), "solution")
        found = self.check((clause("w0a - 0 <= 1"), clause("0 - w0a <= -2")), "tree")
        self.assertEqual(found[1][0], "ring")
        self.check((clause("w0a - 0 <= 1, 0 - w0a <= -2"),), "tree")
        self.check((clause("w0a - 0 <= 1, 0 - w1a <= -2"), clause("w1a - w0a <= 0")), "tree")

    def test_one_of_two(self):
        unlike = clause("w0a - w1a <= -1", "w1a - w0a <= -1")
        self.check((unlike,), "solution")
        self.check((unlike, clause("w0a - w1a <= 0")), "solution")
        self.check((unlike, clause("w0a - w1a <= 0"), clause("w1a - w0a <= 0")), "tree")
        found = self.check((unlike, clause("w0a - w1a <= 0, w1a - w0a <= 0")), "tree")
        self.assertEqual([found[1][0], found[1][1], len(found[1][2])], ["split", unlike, 2])

    def test_equal_clauses_twice(self):
        unlike = clause("w0a - w1a <= -1", "w1a - w0a <= -1")
        equal = clause("w0a - w1a <= 0, w1a - w0a <= 0")
        self.check((unlike, unlike, equal, equal), "tree")
        self.check((unlike, unlike), "solution")
        self.check(((), ()), "tree")
        self.check((unlike, equal, unlike), "tree")

    def test_what_is_not_needed_is_not_split(self):
        # The clauses about w5 to w7 have nothing to do with it, and come first.
        free = tuple(clause(*[f"o{i}a - o{i + 1}a <= {-k}" for k in range(1, 7)]) for i in range(8))
        hard = (clause("w0a - w1a <= -1", "w1a - w0a <= -1"), clause("w0a - w1a <= 0, w1a - w0a <= 0"))
        found = self.check(free + hard, "tree")
        self.assertEqual(size(found[1]), 3)

    def test_many_small_lists(self):
        source = random.Random(220)
        words = []
        for _ in range(2500):
            names = [(), *[unknown(i) for i in range(source.randint(2, 5))]]
            clauses = tuple(self.random_clause(source, names, source.choice((0, 1, 1, 2, 3)) if source.random() < 0.97 else 0)
                            for _ in range(source.randint(0, 7)))
            word = self.check(clauses)[0]
            self.assertEqual(word, "solution" if can_hold(clauses) else "tree")
            words.append(word)
        self.assertGreater(min(words.count("tree"), words.count("solution")), 500)

    def random_clause(self, source, names, alternatives, atoms=2):
        return tuple(sorted({tuple(sorted({(*source.sample(names, 2), source.randint(-4, 3))
                                           for _ in range(source.randint(1, atoms))}))
                             for _ in range(alternatives)}))


class Greatest(SettleTest):
    """Lists of up to a hundred clauses, ten of them with six alternatives."""

    def timed(self, clauses, word):
        begun = time.time()
        found = self.check(clauses, word, slowly=False)
        self.assertLess(time.time() - begun, 6)
        return found

    def chain(self, source, length, columns="a"):
        """Clauses each of which tells by how much an unknown may be greater than the one before."""
        return [tuple(((unknown(i + 1, columns), unknown(i, columns), k),)
                      for k in sorted(source.sample(range(-50, 50), 6))) for i in range(length)]

    def most(self, clauses):
        return sum(some[-1][0][2] for some in clauses)

    def test_a_chain_that_can_only_hold_by_the_last_alternatives(self):
        source = random.Random(1)
        for slack in (0, 1, 7):
            chain = self.chain(source, 10)
            ends = ((((unknown(0), unknown(10), slack - self.most(chain)),),),)
            self.timed(tuple(chain) + ends, "solution")
        for length in (1, 3, 5):
            chain = self.chain(source, length)
            ends = ((((unknown(0), unknown(length), -1 - self.most(chain)),),),)
            found = self.timed(tuple(chain) + ends, "tree")
            self.assertEqual(size(found[1]), sum(6 ** i for i in range(length + 1)))

    def test_short_reasons_among_many_clauses(self):
        source = random.Random(2)
        for _ in range(10):
            single = [clause(f"o{i}a - o{i + 1}a <= {source.randint(0, 9)}") for i in range(58)]
            free = self.chain(source, 7, "b")
            hard = [clause(*[f"f{k}a - s{k}a <= -{k}" for k in range(1, 7)]),
                    clause(*[f"s{k}a - f{k}a <= {k - 1}" for k in range(1, 7)]),
                    clause("s1a - f1a <= 0", "s2a - f2a <= 0")]
            sure = [clause(f"s{k}a - f{k}a <= {k - 1}") for k in range(1, 7)]
            mixed = single + free + hard + sure
            source.shuffle(mixed)
            self.timed(tuple(mixed), "tree")
            mixed.remove(sure[3])
            self.timed(tuple(mixed), "solution")

    def test_as_many_things_as_places_or_more(self):
        for places, things, word in [(6, 6, "solution"), (6, 7, "tree"), (5, 10, "tree")]:
            clauses = tuple(tuple(sorted(tuple(sorted([(("other", (a,), "h"), (), p), ((), ("other", (a,), "h"), -p)]))
                                         for a in range(places))) for p in range(things))
            self.timed(clauses, word)

    def test_lists_that_fall_into_parts(self):
        # One part has very many solutions, the other one has none; or both have some.
        for span, word in [(5, "solution"), (3, "tree")]:
            clauses = []
            for part, places, things in (("other", 6, 5), ("written", span, 5)):
                names = [(part, (min(place, places - 1),), "h") for place in range(6)]
                clauses += [tuple(sorted({tuple(sorted([(name, (), thing), ((), name, -thing)])) for name in names}))
                            for thing in range(things)]
            self.timed(tuple(clauses), word)

    def test_orders_of_jobs(self):
        source = random.Random(3)
        words = []
        for span in (4, 6, 8, 10, 12, 14):
            for _ in range(4):
                ends = [clause(f"w{i}a - 0 <= {span}") for i in range(6)] + [clause(f"0 - w{i}a <= 0") for i in range(6)]
                orders = []
                for _ in range(10):
                    found = set()
                    while len(found) < 6:
                        one, two, three = source.sample(range(6), 3)
                        found.add(tuple(sorted([(unknown(one), unknown(two), -source.randint(1, 4)),
                                                (unknown(two), unknown(three), -source.randint(1, 4))])))
                    orders.append(tuple(sorted(found)))
                begun = time.time()
                words.append(self.check(tuple(ends + orders), slowly=False)[0])
                self.assertLess(time.time() - begun, 6)
        self.assertEqual(set(words), {"solution", "tree"})

    def test_great_lists(self):
        source = random.Random(4)
        for _ in range(20):
            names = [(), *[unknown(i) for i in range(60)]]
            at = {name: source.randint(-10 ** 12, 10 ** 12) for name in names}
            clauses = []
            for number in range(100):
                alternatives = set()
                for turn in range(1 if number < 90 else 6):
                    pairs = [source.sample(names, 2) for _ in range(source.randint(1, 4))]
                    loose = 0 if turn == 0 else -source.randint(0, 10 ** 12)
                    alternatives.add(tuple(sorted((u, v, at[u] - at[v] + loose) for u, v in pairs)))
                clauses.append(tuple(sorted(alternatives)))
            self.timed(tuple(clauses), "solution")
            u, v, k = clauses[0][0][0]
            self.timed(tuple(clauses) + (((((v, u, -k - 1),)),),), "tree")


class TreeHolds(unittest.TestCase):
    UNLIKE = clause("w0a - w1a <= -1", "w1a - w0a <= -1")
    EQUAL = clause("w0a - w1a <= 0, w1a - w0a <= 0")
    LESS, MORE = clause("w0a - w1a <= 0"), clause("w1a - w0a <= 0")
    ALSO = clause("w0a - w2a <= 0", "w2a - w0a <= 0")
    CLAUSES = (UNLIKE, LESS, MORE, ALSO)
    FIRST = ("ring", (atom("w0a - w1a <= -1"), atom("w1a - w0a <= 0")))
    SECOND = ("ring", (atom("w1a - w0a <= -1"), atom("w0a - w1a <= 0")))
    TREE = ("split", UNLIKE, (FIRST, SECOND))

    def holds(self, thing, clauses=None):
        found = tree_holds(clauses or self.CLAUSES, thing)
        self.assertIs(type(found), bool)
        self.assertEqual(found, slow_tree(clauses or self.CLAUSES, thing), thing)
        return found

    def test_trees(self):
        self.assertTrue(self.holds(self.TREE))
        self.assertIs(tree_holds(clauses=self.CLAUSES[::-1] * 2, thing=self.TREE), True)
        self.assertTrue(self.holds(("split", self.ALSO, (self.TREE, self.TREE))))
        # The ring may begin with any of its atoms; a clause with one alternative may be split, too.
        turned = ("ring", self.FIRST[1][::-1])
        self.assertTrue(self.holds(("split", self.UNLIKE, (turned, self.SECOND))))
        self.assertTrue(self.holds(("split", self.LESS, (self.TREE,))))
        self.assertTrue(self.holds(("split", (), ()), (self.UNLIKE, ())))

    def test_what_is_no_tree(self):
        first, second = self.FIRST, self.SECOND
        for thing in [first, second, ("split", self.UNLIKE, (second, first)), ("split", self.UNLIKE, (first,)),
                      ("split", self.UNLIKE, (first, second, second)), ("split", self.UNLIKE, ()),
                      ("split", self.UNLIKE, [first, second]), ["split", self.UNLIKE, (first, second)],
                      ("split", list(self.UNLIKE), (first, second)), ("split", self.UNLIKE, first, second),
                      ("split", self.EQUAL, (self.TREE,)), ("split", (), ()), ("ring", ()), ("ring",), ("split",), (),
                      ("tree", self.TREE), ("solution", ()), self.TREE[1:], ("split", self.UNLIKE), ("ring", first),
                      ("split", self.UNLIKE, (("ring", list(first[1])), second)),
                      ("split", self.UNLIKE, (("ring", first[1], ()), second)),
                      ("split", self.UNLIKE[::-1], (second, first)), ("split", (self.UNLIKE[0],), (first,))]:
            self.assertFalse(self.holds(thing), thing)

    def test_a_clause_is_split_once_on_a_way(self):
        for clauses in (self.CLAUSES, self.CLAUSES + (self.UNLIKE,)):
            self.assertFalse(self.holds(("split", self.UNLIKE, (self.TREE, self.SECOND)), clauses))
            self.assertFalse(self.holds(("split", self.UNLIKE, (self.TREE, self.TREE)), clauses))
            deeper = ("split", self.ALSO, (("split", self.LESS, (self.TREE,)), self.TREE))
            self.assertTrue(self.holds(deeper, clauses))
            self.assertFalse(self.holds(("split", self.ALSO, (deeper, self.TREE)), clauses))
            self.assertFalse(self.holds(("split", self.LESS, (deeper,)), clauses))
        # It may be split on two ways, but on the second one no more often than on the first one.
        self.assertTrue(self.holds(("split", self.ALSO, (self.TREE, self.TREE))))
        twice = ("split", self.UNLIKE, (self.TREE, self.SECOND))
        self.assertFalse(self.holds(("split", self.ALSO, (self.TREE, twice))))
        self.assertFalse(self.holds(("split", self.ALSO, (twice, self.TREE))))

    def test_only_what_was_chosen_counts(self):
        # On the second way the first alternative is not chosen any more, and before a split neither is.
        both = clause("w0a - w1a <= -1", "w1a - w0a <= -1, w0a - w2a <= 0")
        clauses = (both, self.LESS, self.MORE)
        self.assertTrue(self.holds(("split", both, (self.FIRST, self.SECOND)), clauses))
        self.assertFalse(self.holds(("split", both, (self.FIRST, self.FIRST)), clauses))
        self.assertFalse(self.holds(("split", both, (self.SECOND, self.SECOND)), clauses))
        two = (clause("w0a - w1a <= -2", "w0a - w1a <= -1"), clause("w1a - w0a <= 0", "w1a - w0a <= 1"))
        rings = {(i, j): ("ring", (atom(f"w0a - w1a <= {i}"), atom(f"w1a - w0a <= {j}"))) for i in (-2, -1) for j in (0, 1)}
        clauses = (*two, clause("w1a - w0a <= -1"))
        last = ("ring", (atom("w0a - w1a <= -1"), atom("w1a - w0a <= -1")))
        inner = ("split", two[1], (rings[-2, 0], rings[-2, 1]))
        self.assertTrue(self.holds(("split", two[0], (inner, last)), clauses))
        self.assertFalse(self.holds(("split", two[0], (last, inner)), clauses))
        # Behind the inner split, its alternatives are chosen no more; before it, they are not yet.
        self.assertFalse(self.holds(("split", two[0], (inner, rings[-1, 0])), clauses))
        self.assertFalse(self.holds(("split", two[0], (rings[-2, 0], last)), clauses))

    def test_an_atom_that_two_alternatives_share(self):
        one = clause("w0a - w1a <= -1, w2a - 0 <= 0", "w0a - w1a <= -1, w2a - 0 <= 1")
        two = clause("w0a - w1a <= -1, w2a - 0 <= 2", "w0a - w1a <= -1")
        ring = ("ring", (atom("w0a - w1a <= -1"), atom("w1a - w0a <= 0")))
        clauses = (one, two, self.MORE)
        inner = ("split", two, (ring, ring))
        self.assertTrue(self.holds(("split", one, (inner, ring)), clauses))
        self.assertTrue(self.holds(("split", one, (ring, inner)), clauses))
        self.assertFalse(self.holds(ring, clauses))

    def test_a_ring_that_does_not_go_below_zero(self):
        clauses = (clause("w0a - w1a <= 1"), clause("w1a - w0a <= -1"))
        self.assertFalse(self.holds(("ring", (clauses[0][0][0], clauses[1][0][0])), clauses))
        self.assertFalse(self.holds(("ring", (clauses[1][0][0],)), clauses))

    def test_variants(self):
        for thing in variants(self.TREE):
            self.holds(thing)
        for thing in variants(("split", self.ALSO, (self.TREE, ("split", self.MORE, (self.TREE,))))):
            self.holds(thing)

    def test_bools_are_no_integers(self):
        clauses = (clause("w0a - w1a <= -1"), clause("w1a - w0a <= 0"))
        ring = (clauses[0][0][0], clauses[1][0][0])
        self.assertTrue(self.holds(("ring", ring), clauses))
        for thing in [("ring", (ring[0], (*ring[1][:2], False))),
                      ("ring", ((("written", (False,), "a"), *ring[0][1:]), ring[1]))]:
            self.assertEqual(thing, ("ring", ring))
            self.assertFalse(self.holds(thing, clauses))
        one = clause("w0a - w1a <= 1", "w1a - w0a <= 1")
        thing = ("split", ((one[0][0][:2] + (True,),), one[1]), ())
        self.assertFalse(self.holds(thing, (one,)))

    def test_any_value(self):
        for thing in ODD + [deep(60), {"ring": ()}, ("ring", deep(58)), ("split", deep(50), deep(50)), "ring", "split",
                            ("ring", {}), ("split", {}, {}), ("split", self.UNLIKE, {}), ("split", self.UNLIKE, (1, 2)),
                            (["ring"], ()), ({}, {}, {}), ("split", [self.UNLIKE], ()), ("split", ((1,),), (0,))]:
            self.assertIs(tree_holds(self.CLAUSES, thing), False)
            self.assertIs(tree_holds((), thing), False)
            self.assertIs(tree_holds(((),), thing), False)

    def test_as_many_splits_as_clauses(self):
        many = [clause(f"o{i}a - o{i + 1}a <= 0") for i in range(98)]
        clauses = (*many, self.LESS, self.MORE, self.UNLIKE)
        tree = self.TREE
        for some in many:
            tree = ("split", some, (tree,))
        self.assertTrue(tree_holds(clauses, tree))
        self.assertFalse(tree_holds(clauses, ("split", many[50], (tree,))))
        wide = [clause(f"o{i}a - o{i + 1}a <= 0", f"o{i}a - o{i + 1}a <= 1") for i in range(400)]
        tree = self.TREE
        for some in wide:
            tree = ("split", some, (self.TREE, tree))
        self.assertTrue(tree_holds((*wide, self.LESS, self.MORE, self.UNLIKE), tree))

    def test_large_values(self):
        self.assertIs(tree_holds(self.CLAUSES, ("split", self.UNLIKE, (self.TREE,) * 2000)), False)
        self.assertIs(tree_holds(self.CLAUSES, ("ring", self.FIRST[1] * 4000)), False)


if __name__ == "__main__":
    unittest.main()
