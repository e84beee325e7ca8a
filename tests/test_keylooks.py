"""Points 29 and 30: keys that are looked at row by row."""

import itertools
import random
import unittest

from lively import lively_database, lively_statement
from ownwake.databases import Database
from ownwake.deciding import decide
from ownwake.errors import Duplicate, NoChain, Unsound
from ownwake.keylooks import key_clauses, key_look, never_holds, refuses_holds, run_by_rows
from ownwake.meanings import meaning
from ownwake.plans import Plan, plans_of
from ownwake.schemas import Schema
from ownwake.statements import Statement
from samples import ODD, deep, is_plain
from variants import clause, listed, slow_tree, strict, variants

SCHEMA = Schema(("p", ("q",), (), ()), ("r", ("m", "n"), (), ()), ("t", ("k", "a", "j"), ("a", "k"), ("j", "k")),
                ("u", ("c",), (), ()))
HEAP, UP, DOWN = ("heap",), ("up", "k"), ("down", "k")


def planned(text, path=HEAP, schema=SCHEMA, **parts):
    return Plan(Statement.read(schema, text), None, (path,) if path else None, **parts)


def built(rows, **others):
    parts = {"t": rows, **others}
    return Database(SCHEMA, tuple((name, 9, tuple(enumerate(parts.get(name, ())))) for name in ("p", "r", "t", "u")))


NEXT = "update t from x t\nwhere x.k <= 9\nset k to x.k + 1"
BOTH = "update t from x t\nset j to x.j + 1\nset k to x.k + 1"


class ByRows(unittest.TestCase):
    def check(self, plan, database, *expected):
        """Whether this is refused; or the run is done, with these rows at last."""
        before = database.data
        found = run_by_rows(plan, database)
        self.assertEqual(database.data, before)
        if expected[0] == "refused":
            self.assertEqual(found, expected)
            self.assertTrue(is_plain(found))
            return
        word, tellings, after = found
        self.assertEqual(word, "done")
        self.assertTrue(is_plain(tellings))
        self.assertEqual(tellings, meaning(plan.statement, database)[0])
        self.assertIsInstance(after, Database)
        self.assertEqual(after["t"], tuple(enumerate(expected[1])))
        self.assertTrue(after.alike(meaning(plan.statement, database)[1], database))

    def test_the_order_of_the_scan(self):
        rows = built([(1, 0, 1), (2, 0, 2), (5, 0, 3)])
        self.check(planned(NEXT), rows, "refused", 0, "k", 2)
        self.check(planned(NEXT, DOWN), rows, "done", [(2, 0, 1), (3, 0, 2), (6, 0, 3)])
        self.check(planned(NEXT), built([(2, 0, 1), (1, 0, 2)]), "done", [(3, 0, 1), (2, 0, 2)])
        self.check(planned(NEXT, DOWN), built([(2, 0, 1), (1, 0, 2)]), "done", [(3, 0, 1), (2, 0, 2)])
        self.check(planned(NEXT, DOWN), built([(9, 0, 1), (10, 0, 2)]), "refused", 0, "k", 10)

    def test_holds_keep_and_marks(self):
        rows = built([(1, 0, 1), (2, 0, 2)])
        for parts in ({"hold": 1}, {"keep": True}, {"marks": ("x",)}, {"hold": 1, "marks": ("x",)}):
            self.check(planned(NEXT, UP, **parts), rows, "refused", 0, "k", 2)
            self.check(planned(NEXT, DOWN, **parts), rows, "done", [(2, 0, 1), (3, 0, 2)])
            self.check(planned(NEXT, HEAP, **parts), rows, "refused", 0, "k", 2)

    def test_as_the_table_is_then(self):
        # Row 0 makes way for row 1; and it takes what row 1 would get.
        move = "update t from x t\nwhere x.a <= 1\nset k to x.j"
        self.check(planned(move), built([(1, 0, 5), (6, 0, 1)]), "done", [(5, 0, 5), (1, 0, 1)])
        self.check(planned(move), built([(6, 0, 1), (1, 0, 5)]), "refused", 0, "k", 1)
        self.check(planned(move), built([(7, 0, 1), (8, 2, 5)]), "done", [(1, 0, 1), (8, 2, 5)])
        # What comes of it is refused at last by the meaning, too, but row by row it is told at once.
        same = "update t from x t\nset k to 4"
        self.check(planned(same), built([(1, 0, 1), (2, 0, 2)]), "refused", 1, "k", 4)
        self.check(planned(same), built([(1, 0, 1), (4, 0, 2)]), "refused", 0, "k", 4)

    def test_the_first_key_column_of_the_table(self):
        rows = built([(1, 0, 1), (2, 0, 2)])
        self.check(planned(BOTH), rows, "refused", 0, "k", 2)
        self.check(planned(BOTH), built([(1, 0, 1), (7, 0, 2)]), "refused", 0, "j", 2)
        schema = Schema(("t", ("j", "k"), (), ("j", "k")))
        database = Database(schema, (("t", 2, ((0, (1, 1)), (1, (2, 2)))),))
        self.assertEqual(run_by_rows(planned(BOTH, schema=schema), database), ("refused", 0, "j", 2))
        # Of several rows the first one that is written is told, with its number.
        far = Database(SCHEMA, (("t", 9, ((3, (8, 0, 8)), (5, (1, 0, 1)), (8, (2, 0, 2)))),))
        self.assertEqual(run_by_rows(planned(NEXT), far), ("refused", 5, "k", 2))

    def test_a_row_that_has_its_new_values_is_not_looked_at(self):
        self.check(planned("update t from x t\nset a to 7"), built([(1, 7, 1), (2, 7, 2)]), "done", [(1, 7, 1), (2, 7, 2)])
        self.check(planned("update t from x t\nset k to x.k"), built([(1, 7, 1), (2, 7, 2)]), "done", [(1, 7, 1), (2, 7, 2)])
        # A column that is no key may have what others have.
        self.check(planned("update t from x t\nset a to x.k"), built([(1, 2, 1), (2, 1, 2)]), "done", [(1, 1, 1), (2, 2, 2)])

    def test_no_match(self):
        self.check(planned(NEXT), built([(10, 0, 1)]), "done", [(10, 0, 1)])
        self.check(planned(NEXT), built([]), "done", [])

    def test_probes_and_tellings(self):
        text = "update t from x t\nsome p where q = x.a\nset k to x.k + 1\ntell x.k\ntell x.j"
        rows = built([(2, 1, 0), (1, 1, 1), (0, 0, 7)], p=[(1,)])
        self.check(planned(text), rows, "done", [(3, 1, 0), (2, 1, 1), (0, 0, 7)])
        self.assertEqual(run_by_rows(planned(text), rows)[1], (((0,), (2, 0)), ((1,), (1, 1))))

    def test_no_chain(self):
        two = Plan(Statement.read(SCHEMA, "update t from x t, y u\nset k to x.k + 1"))
        many = planned(NEXT, hands="many")
        others = [two, many, planned("delete t from x t"), planned("insert t from x t\nset k to 1\nset a to 1\nset j to 1")]
        for plan in others:
            for call in (key_clauses, key_look, lambda some: run_by_rows(some, built([(1, 0, 1)]))):
                with self.assertRaises(NoChain) as caught:
                    call(plan)
                self.assertEqual(caught.exception.plan_data, plan.data)
            for thing in ODD + [built([(1, 0, 1), (2, 0, 2)]).data]:
                self.assertIs(refuses_holds(plan, thing), False)
                self.assertIs(never_holds(plan, thing), False)

    def test_random_runs(self):
        source = random.Random(29)
        seen = {}
        for _ in range(300):
            statement = lively_statement(source, "update", 1, keyed=0.6)
            plan = source.choice(list(plans_of(statement)))
            if decide(plan)[0] != "sound":
                continue
            database = lively_database(source, statement.schema, most=4, least=2)
            found = run_by_rows(plan, database)
            self.assertEqual(found, run_by_rows(plan, database))
            try:
                tellings, after = meaning(statement, database)
            except Duplicate:
                self.assertEqual(found[0], "refused")
                seen["both"] = True
                continue
            seen[found[0]] = True
            if found[0] == "done":
                self.assertEqual(found[1], tellings)
                self.assertTrue(found[2].alike(after, database))
        self.assertEqual(set(seen), {"both", "done", "refused"})


def unlike(one, other, k=0):
    return clause(f"{one} - {other} <= {k - 1}", f"{other} - {one} <= {-k - 1}")


class Clauses(unittest.TestCase):
    NUMBERS = clause("w0# - w1# <= -1", "w1# - w0# <= -1")

    def keys(self, *more):
        """That old and new values of k and j are unlike, if j is not set."""
        return [unlike("w0k", "w1k"), unlike("w0j", "w1j"), self.NUMBERS, *more]

    def test_one_key(self):
        nine = [clause("w0k - 0 <= 9"), clause("w1k - 0 <= 9")]
        taken = clause("w0k - w1k <= -1, w1k - w0k <= 1")
        for path, ahead in [(HEAP, clause("w0# - w1# <= -1")),
                            (UP, clause("w0k - w1k <= -1", "w0k - w1k <= 0, w1k - w0k <= 0, w0# - w1# <= -1")),
                            (DOWN, clause("w1k - w0k <= -1", "w0k - w1k <= 0, w1k - w0k <= 0, w1# - w0# <= -1"))]:
            for parts in ({}, {"hold": 1}, {"marks": ("x",)}, {"keep": True}):
                found = key_clauses(planned(NEXT, path, **parts))
                self.assertEqual(found, ((("key", "k"), listed(*nine, taken, ahead, *self.keys())),))
                self.assertTrue(is_plain(found))

    def test_two_keys(self):
        text = "update t from x t\nset j to x.k\nset k to x.j - 2"
        # The new k is j - 2, the new j is k.
        shared = [clause("w0# - w1# <= -1"), *self.keys(unlike("w0j", "w1j"), unlike("w0k", "w1k"))]
        self.assertEqual(key_clauses(planned(text)), (
            (("key", "j"), listed(clause("w0k - w1j <= 0, w1j - w0k <= 0"), *shared)),
            (("key", "k"), listed(clause("w0j - w1k <= 2, w1k - w0j <= -2"), *shared))))

    def test_no_key_is_set(self):
        self.assertEqual(key_clauses(planned("update t from x t\nwhere x.k <= 9\nset a to 3")), ())
        plan = planned("update t from x t\nwhere x.k <= 9\nset a to 3")
        self.assertEqual(key_look(plan), ("never", ()))
        self.assertTrue(never_holds(plan, ()))
        schema = Schema(("t", ("k",), ("k",), ()))
        self.assertEqual(key_look(planned("update t from x t\nwhere x.k <= 9\nset k to 3", schema=schema)), ("never", ()))

    def test_clauses_without_alternatives_stay(self):
        # Both rows would get 4.
        found = key_clauses(planned("update t from x t\nset k to 4"))
        self.assertEqual(found, ((("key", "k"), listed((), clause("w0# - w1# <= -1"), clause("w1k - 0 <= 4, 0 - w1k <= -4"),
                                                       *self.keys())),))
        self.assertEqual(key_look(planned("update t from x t\nset k to 4"))[0], "never")
        found = key_clauses(planned("update t from x t\nwhere x.k <= x.k - 1\nset k to x.k + 1"))[0][1]
        self.assertEqual(found[0], ())

    def test_what_always_holds_is_no_clause(self):
        found = key_clauses(planned("update t from x t\nwhere x.k <= x.k\nset k to x.k + 1"))[0][1]
        self.assertEqual(found, listed(clause("w0# - w1# <= -1"), clause("w0k - w1k <= -1, w1k - w0k <= 1"), *self.keys()))

    def test_probes(self):
        text = "update t from x t\nnone p where q = x.a\nsome r where m >= x.k and n <= m + 2\nset k to x.a"
        # The new k is a, so the two rows have unlike a.
        self.assertEqual(key_clauses(planned(text)), ((("key", "k"), listed(
            clause("s0n - s0m <= 2"), clause("s1n - s1m <= 2"), clause("w0k - s0m <= 0"), clause("w1k - s1m <= 0"),
            clause("w0# - w1# <= -1"), clause("w0a - w1k <= 0, w1k - w0a <= 0"), *self.keys(unlike("w0a", "w1a")))),))

    def test_conditions_with_all_signs(self):
        text = "update t from x t\nwhere x.a != 3\nwhere x.k = x.a + 1\nset k to x.k + 1"
        rows = [some for row in (0, 1) for some in (clause(f"w{row}a - 0 <= 2", f"0 - w{row}a <= -4"),
                                                    clause(f"w{row}k - w{row}a <= 1, w{row}a - w{row}k <= -1"))]
        self.assertEqual(key_clauses(planned(text)), ((("key", "k"), listed(
            *rows, clause("w0# - w1# <= -1"), clause("w0k - w1k <= -1, w1k - w0k <= 1"), *self.keys())),))


class Looks(unittest.TestCase):
    def check(self, plan, word=None):
        """Whether what is returned is right, and is this."""
        found = key_look(plan)
        self.assertTrue(is_plain(found))
        self.assertEqual(len(found), 2)
        if word is not None:
            self.assertEqual(found[0], word)
        if found[0] == "refuses":
            self.assertEqual(Database(plan.statement.schema, found[1]).data, found[1])
            database = Database(plan.statement.schema, found[1])
            self.assertEqual(len(database[plan.statement.table]), 2)
            meaning(plan.statement, database)
            self.assertEqual(run_by_rows(plan, database)[0], "refused")
        else:
            told = key_clauses(plan)
            self.assertEqual([name for name, _ in found[1]], [name for name, _ in told])
            for (_, tree), (_, clauses) in zip(found[1], told):
                self.assertTrue(slow_tree(clauses, tree))
        self.assertIs(refuses_holds(plan, found[1]), found[0] == "refuses")
        self.assertIs(never_holds(plan, found[1]), found[0] == "never")
        return found

    def test_paths(self):
        schema = Schema(("t", ("k",), ("k",), ("k",)))
        for path, word in [(HEAP, "refuses"), (DOWN, "never")]:
            self.check(planned(NEXT, path, schema), word)
        for parts in ({"hold": 1}, {"marks": ("x",)}, {"keep": True}):
            self.check(planned(NEXT, UP, schema, **parts), "refuses")
            self.check(planned(NEXT, DOWN, schema, **parts), "never")

    def test_unsound_plans(self):
        plan = planned(NEXT, UP)
        with self.assertRaises(Unsound) as caught:
            key_look(plan)
        self.assertEqual(caught.exception.plan_data, plan.data)
        self.assertEqual(len(key_clauses(plan)), 1)
        rows = built([(1, 0, 1), (2, 0, 2)])
        self.assertIs(refuses_holds(plan, rows.data), False)
        self.assertIs(refuses_holds(planned(NEXT), rows.data), True)
        self.assertIs(never_holds(plan, ()), False)
        # A plan of another kind that is unsound is no chain before it is unsound.
        many = planned(NEXT, UP, hands="many")
        self.assertEqual(decide(many)[0], "disturbed")
        with self.assertRaises(NoChain):
            key_look(many)
        insert = planned("insert t from x t\nset k to x.k\nset a to 1\nset j to 1")
        self.assertEqual(decide(insert)[0], "disturbed")
        with self.assertRaises(NoChain):
            key_look(insert)

    def test_random_plans(self):
        source = random.Random(30)
        words = []
        for _ in range(250):
            statement = lively_statement(source, "update", 1, keyed=0.6, conditions=source.choice((0, 1, 2, 3)))
            for plan in plans_of(statement):
                if decide(plan)[0] == "sound":
                    words.append(self.check(plan)[0])
                else:
                    self.assertRaises(Unsound, key_look, plan)
        self.assertGreater(min(words.count("refuses"), words.count("never")), 100)

    def test_against_all_small_databases(self):
        schema = Schema(("t", ("k", "a"), ("k",), ("k",)))
        texts = [f"update t from x t{condition}\nset k to {setting}"
                 for condition in ("", "\nwhere x.k <= 1", "\nwhere x.k <= x.a", "\nwhere x.a != 1\nwhere x.k <= 9")
                 for setting in ("x.k + 1", "x.k - 1", "x.a", "x.a + 1", "1")]
        cells = list(itertools.product(range(-1, 3), range(-1, 3)))
        databases = [Database(schema, (("t", 3, tuple(enumerate(rows))),)) for rows in itertools.permutations(cells, 2)
                     if rows[0][0] != rows[1][0]]
        words = set()
        for text in texts:
            for plan in plans_of(Statement.read(schema, text)):
                if decide(plan)[0] == "sound":
                    word = self.check(plan)[0]
                    words.add(word)
                    if word == "never":
                        for database in databases:
                            self.assertFalse(refuses_holds(plan, database.data))
        self.assertEqual(words, {"refuses", "never"})


class Holding(unittest.TestCase):
    def test_data(self):
        plan = planned(NEXT)
        right = built([(1, 0, 1), (2, 0, 2)], p=[(1,)]).data
        self.assertIs(refuses_holds(plan, right), True)
        self.assertIs(refuses_holds(plan=plan, thing=right), True)
        p, r, t, u = right
        for rows in [[(1, 0, 1)], [], [(1, 0, 1), (2, 0, 2), (7, 0, 7)], [(1, 0, 1), (3, 0, 2)], [(2, 0, 1), (1, 0, 2)],
                     [(9, 0, 1), (10, 0, 2)], [(10, 0, 1), (11, 0, 2)]]:
            self.assertIs(refuses_holds(plan, built(rows).data), False, rows)
        for thing in [(p, r, t), (t,), (p, t, u), right[::-1], list(right), (right,), (p, r, ("t", 1, t[2]), u),
                      (p, r, ("t", True, t[2]), u), (p, r, ("t", 9, ((0, (True, 0, 1)), t[2][1])), u),
                      (p, r, ("t", 9, ((False, (1, 0, 1)), t[2][1])), u), (p, r, ("t", 9, list(t[2])), u),
                      (p, r, ("t", 9, t[2][::-1]), u), (p, r, ("t", 9, ((0, (1, 0, 1)), (1, (2, 0, 1)))), u)]:
            self.assertIs(refuses_holds(plan, thing), False, thing)

    def test_variants_of_data(self):
        plan, right = planned(NEXT), built([(1, 0, 1), (2, 0, 2)]).data
        for thing in variants(right):
            try:
                database = Database(SCHEMA, thing)
                meaning(plan.statement, database)
                expected = strict(database.data, thing) and len(database["t"]) == 2
                expected = expected and run_by_rows(plan, database)[0] == "refused"
            except ValueError:
                expected = False
            self.assertIs(refuses_holds(plan, thing), expected, thing)

    def test_trees(self):
        schema = Schema(("t", ("j", "k"), ("k",), ("j", "k")))
        text = "update t from x t\nwhere x.k <= 9\nwhere x.j = x.k\nset j to x.j + 1\nset k to x.k + 1"
        plan = planned(text, DOWN, schema)
        word, trees = key_look(plan)
        self.assertEqual([word, [name for name, _ in trees]], ["never", [("key", "j"), ("key", "k")]])
        self.assertIs(never_holds(plan=plan, thing=trees), True)
        told = key_clauses(plan)
        mixed = ((trees[0][0], trees[1][1]), (trees[1][0], trees[0][1]))
        for thing in [trees[::-1], trees[:1], trees[1:], trees + trees[:1], (), list(trees), dict(trees), (trees,), mixed,
                      ((("key", "j", 0), trees[0][1]), trees[1]), ((["key", "j"], trees[0][1]), trees[1]),
                      (trees[0][0], trees[1][0]), *variants(trees)]:
            expected = type(thing) is tuple and len(thing) == 2 and all(
                type(part) is tuple and len(part) == 2 and strict(part[0], name) and slow_tree(clauses, part[1])
                for part, (name, clauses) in zip(thing, told))
            self.assertIs(never_holds(plan, thing), expected, thing)

    def test_any_value(self):
        schema = Schema(("t", ("k",), ("k",), ("k",)))
        for plan in (planned(NEXT), planned(NEXT, DOWN, schema)):
            for thing in ODD + [deep(60), (deep(59),), (("key", "k"), deep(58)), ((("key", "k"), deep(57)),), {"t": []},
                                (("t", 2, ((0, {}), (1, []))),), ((("key", "k"), {}),), ({}, ()), (([], ()),)]:
                self.assertIs(refuses_holds(plan, thing), False)
                self.assertIs(never_holds(plan, thing), False)


if __name__ == "__main__":
    unittest.main()
