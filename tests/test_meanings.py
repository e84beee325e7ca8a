"""Points 9 and 10: matches, and what a statement means."""

import itertools
import random
import unittest

from ownwake.databases import Database
from ownwake.errors import Duplicate
from ownwake.meanings import matches, meaning
from ownwake.schemas import Schema
from ownwake.statements import Statement
from samples import is_plain, random_database, random_schema, random_statement, slow_matches

SCHEMA = Schema(("p", ("q", "r"), (), ()), ("s", ("q",), (), ()), ("t", ("a", "b"), ("a",), ()), ("u", ("c",), (), ()))
A, B, C = ("x", "a"), ("x", "b"), ("y", "c")
ONE, TWO, SAME = (("x", "t"),), (("x", "t"), ("y", "u")), (("x", "t"), ("y", "t"))


def data(t=(), u=(), p=(), s=()):
    """A database with these values, numbered from 0, and with the next numbers 10 for t and 20 for u."""
    tables = []
    for name, following, rows in [("p", 30, p), ("s", 40, s), ("t", 10, t), ("u", 20, u)]:
        tables.append((name, max(following, len(rows)), tuple(enumerate(rows))))
    return Database(SCHEMA, tuple(tables))


def delete(references=ONE, **parts):
    return Statement(SCHEMA, "delete", "t", references, **parts)


class Matches(unittest.TestCase):
    def check(self, expected, statement, database):
        found = list(matches(statement, database))
        self.assertEqual(found, expected)
        self.assertTrue(is_plain(tuple(found)))
        self.assertEqual(list(matches(database=database, statement=statement)), expected)

    def test_one_reference(self):
        rows = data([(1, 5), (2, 5), (3, 1), (2, 2)])
        self.check([(0,), (1,), (2,), (3,)], delete(), rows)
        self.check([(0,), (1,), (3,)], delete(conditions=((A, "<=", None, 2),)), rows)
        self.check([(1,), (3,)], delete(conditions=((A, "=", None, 2),)), rows)
        self.check([(0,), (2,)], delete(conditions=((A, "!=", None, 2),)), rows)
        self.check([(0,), (1,), (3,)], delete(conditions=((A, "<=", B, 0),)), rows)
        self.check([(0,), (1,), (2,), (3,)], delete(conditions=((A, "<=", B, 2),)), rows)
        self.check([(0,), (1,)], delete(conditions=((A, "<=", B, -1),)), rows)
        self.check([(2,)], delete(conditions=((A, "=", B, 2),)), rows)
        self.check([(3,)], delete(conditions=((A, "=", A, 0), (A, "=", B, 0))), rows)
        self.check([], delete(conditions=((A, "=", A, 1),)), rows)
        self.check([], delete(conditions=((A, "<=", None, 9), (B, "=", None, 3))), rows)

    def test_two_tables(self):
        rows = data([(1, 5), (3, 5)], [(2,), (3,), (1,)])
        self.check(list(itertools.product((0, 1), (0, 1, 2))), delete(TWO), rows)
        self.check([(0, 0), (0, 1), (0, 2), (1, 1)], delete(TWO, conditions=((A, "<=", C, 0),)), rows)
        self.check([(0, 2), (1, 1)], delete(TWO, conditions=((A, "=", C, 0),)), rows)
        self.check([(0, 0), (0, 1), (1, 0), (1, 2)], delete(TWO, conditions=((C, "!=", A, 0),)), rows)
        self.check([(0, 0), (1, 0), (1, 2)], delete(TWO, conditions=((C, "<=", A, 1), (C, "!=", A, 0))), rows)
        self.check([(0, 1), (1, 1)], delete(TWO, conditions=((C, "=", None, 3),)), rows)
        self.check([(1, 1)], delete(TWO, conditions=((C, "=", None, 3), (A, "=", None, 3))), rows)

    def test_one_table_twice(self):
        rows = data([(1, 3), (2, 1), (3, 2)])
        self.check(list(itertools.product((0, 1, 2), repeat=2)), delete(SAME), rows)
        self.check([(0, 1), (1, 2), (2, 0)], delete(SAME, conditions=((A, "=", ("y", "b"), 0),)), rows)
        self.check([(0, 0), (0, 1), (0, 2), (1, 1), (1, 2), (2, 2)],
                   delete(SAME, conditions=((A, "<=", ("y", "a"), 0),)), rows)

    def test_one_row_for_both(self):
        self.check([(0, 0)], delete(SAME, conditions=((A, "=", ("y", "a"), 0),)), data([(1, 3)]))

    def test_no_rows(self):
        self.check([], delete(), data())
        self.check([], delete(TWO), data([(1, 1)]))
        self.check([], delete(TWO), data([], [(1,)]))

    def test_the_written_table_of_an_insert_is_not_asked(self):
        statement = Statement(SCHEMA, "insert", "u", ONE, settings=(("c", A, 0),))
        self.check([(0,), (1,)], statement, data([(1, 3), (1, 3)], [(7,)] * 3))

    def test_signs_of_links(self):
        rows = data([(1, 0), (2, 0), (3, 0)], p=[(2, 0)])
        for sign, k, some in [("<=", 0, [1, 2]), ("=", 0, [1]), (">=", 0, [0, 1]), ("<=", -1, [2]), ("=", 1, [0]),
                              (">=", 1, [0]), ("<=", 1, [0, 1, 2]), (">=", -1, [0, 1, 2])]:
            link = ("q", sign, A, k)
            self.check([(n,) for n in some], delete(probes=(("some", "p", (), link),)), rows)
            self.check([(n,) for n in range(3) if n not in some], delete(probes=(("none", "p", (), link),)), rows)

    def test_own_conditions(self):
        rows = data([(1, 0), (2, 0), (3, 0)], p=[(1, 1), (2, 5), (3, 2), (3, 9)])
        for own, some in [((), [0, 1, 2]), ((("r", "=", None, 5),), [1]), ((("r", "<=", None, 2),), [0, 2]),
                          ((("r", "=", "q", 3),), [1]), ((("q", "<=", "r", 1),), [0, 1, 2]),
                          ((("r", "<=", "q", -1),), [2]), ((("r", "<=", None, 5), ("q", "<=", None, 2)), [0, 1]),
                          ((("r", "=", None, 5), ("q", "=", None, 1)), [])]:
            link = ("q", "=", A, 0)
            self.check([(n,) for n in some], delete(probes=(("some", "p", own, link),)), rows)
            self.check([(n,) for n in range(3) if n not in some], delete(probes=(("none", "p", own, link),)), rows)

    def test_empty_probed_tables(self):
        link = ("q", ">=", A, 0)
        self.check([], delete(probes=(("some", "p", (), link),)), data([(1, 0)]))
        self.check([(0,)], delete(probes=(("none", "p", (), link),)), data([(1, 0)]))

    def test_two_probes(self):
        rows = data([(1, 0), (2, 0)], [(1,), (2,)], p=[(1, 0)], s=[(2,)])
        probes = (("some", "p", (), ("q", "=", A, 0)), ("none", "s", (), ("q", "=", C, 0)))
        self.check([(0, 0)], delete(TWO, probes=probes), rows)
        self.check([(0, 0), (0, 1)], delete(TWO, probes=probes[:1]), rows)
        self.check([(0, 0), (1, 0)], delete(TWO, probes=probes[1:]), rows)

    def test_many_rows(self):
        rows = data([(n % 7, n) for n in range(40)], [(n,) for n in range(40)])
        statement = delete(TWO, conditions=((A, "=", C, 0), (B, "<=", None, 30)))
        self.check([(n, n % 7) for n in range(31)], statement, rows)
        self.assertEqual(len(list(matches(delete(TWO), rows))), 1600)

    def test_it_is_gone_through_in_steps(self):
        statement, rows = delete(SAME), data([(1, 1), (2, 2)])
        outer, seen = matches(statement, rows), []
        for one in outer:
            for other in matches(statement, rows):
                seen.append((one, other))
                if len(seen) % 3 == 0:
                    break
        all_of_them = list(itertools.product((0, 1), repeat=2))
        self.assertEqual(seen, [(one, other) for one in all_of_them for other in all_of_them[:3]])
        begun = matches(statement, rows)
        self.assertIs(iter(begun), begun)
        self.assertEqual([next(begun), next(begun)], [(0, 0), (0, 1)])
        begun.close()

    def test_against_all_tuples(self):
        source = random.Random(9)
        for _ in range(400):
            schema = random_schema(source)
            statement, rows = random_statement(source, schema), random_database(source, schema, most=5, spread=3)
            self.assertEqual(list(matches(statement, rows)), slow_matches(statement, rows))


class Meanings(unittest.TestCase):
    def check(self, tellings, table, statement, database, name="t"):
        told, after = meaning(statement, database)
        self.assertEqual(told, tellings)
        self.assertTrue(is_plain(told))
        expected = tuple(table if part[0] == name else part for part in database.data)
        self.assertEqual(after, Database(database.schema, expected))

    def test_update(self):
        statement = Statement(SCHEMA, "update", "t", ONE, conditions=((A, "<=", None, 2),), told=(B, A),
                              settings=(("a", B, 1), ("b", A, -1)))
        self.check((((0,), (7, 1)), ((2,), (8, 2))), ("t", 10, ((0, (8, 0)), (1, (3, 9)), (2, (9, 1)))),
                   statement, data([(1, 7), (3, 9), (2, 8)]))

    def test_settings_are_of_the_old_values(self):
        statement = Statement(SCHEMA, "update", "t", ONE, settings=(("a", B, 0), ("b", A, 0)))
        self.check((((0,), ()), ((1,), ())), ("t", 10, ((0, (2, 1)), (1, (4, 3)))), statement, data([(1, 2), (3, 4)]))
        statement = Statement(SCHEMA, "update", "t", ONE, settings=(("b", None, 6),))
        self.check((((0,), ()),), ("t", 10, ((0, (1, 6)),)), statement, data([(1, 2)]))

    def test_a_target_in_several_matches(self):
        statement = Statement(SCHEMA, "update", "t", TWO, conditions=((A, "<=", C, 0),), told=(C,),
                              settings=(("a", A, 5),))
        self.check((((0, 0), (3,)), ((0, 1), (2,)), ((1, 0), (3,))),
                   ("t", 10, ((0, (6, 0)), (1, (8, 0)), (2, (4, 0)))),
                   statement, data([(1, 0), (3, 0), (4, 0)], [(3,), (2,)]))

    def test_delete(self):
        statement = delete(conditions=((A, "!=", None, 1),), told=(A,))
        self.check((((1,), (2,)), ((2,), (3,))), ("t", 10, ((0, (1, 1)),)), statement, data([(1, 1), (2, 2), (3, 3)]))
        statement = delete(SAME, conditions=((A, "=", ("y", "b"), 0),), told=(("y", "a"),))
        self.check((((0, 1), (9,)), ((0, 2), (8,))), ("t", 10, ((1, (9, 1)), (2, (8, 1)))),
                   statement, data([(1, 5), (9, 1), (8, 1)]))

    def test_insert(self):
        statement = Statement(SCHEMA, "insert", "t", TWO, conditions=((A, "<=", C, 0),), told=(A, C),
                              settings=(("a", C, 1), ("b", A, -1)))
        rows = [(2, 0), (1, 0)]
        new = ((10, (4, 1)), (11, (2, 0)), (12, (4, 0)))
        self.check((((0, 1), (2, 3)), ((1, 0), (1, 1)), ((1, 1), (1, 3))), ("t", 13, (*enumerate(rows), *new)),
                   statement, data(rows, [(1,), (3,)]))

    def test_insert_into_another_table(self):
        statement = Statement(SCHEMA, "insert", "u", ONE, settings=(("c", B, 3),))
        self.check((((0,), ()), ((1,), ())), ("u", 22, ((0, (5,)), (20, (10,)), (21, (11,)))),
                   statement, data([(1, 7), (2, 8)], [(5,)]), "u")

    def test_no_match(self):
        for kind, settings in [("update", (("a", None, 5),)), ("delete", ()),
                               ("insert", (("a", None, 1), ("b", None, 1)))]:
            statement = Statement(SCHEMA, kind, "t", ONE, conditions=((A, "=", None, 9),), settings=settings)
            self.check((), ("t", 10, ((0, (1, 1)),)), statement, data([(1, 1)]))

    def test_beyond_the_limits(self):
        statement = Statement(SCHEMA, "update", "t", ONE, settings=(("a", A, 10 ** 9),))
        self.check((((0,), ()),), ("t", 10, ((0, (10 ** 12 + 10 ** 9, 0)),)), statement, data([(10 ** 12, 0)]))

    def test_what_is_passed_stays(self):
        database = data([(1, 7), (3, 9)])
        before = database.data
        statement = Statement(SCHEMA, "update", "t", ONE, settings=(("a", B, 1),))
        first = meaning(statement=statement, database=database)
        self.assertEqual(database.data, before)
        self.assertEqual(meaning(statement, database), first)


KEYED = Schema(("t", ("k", "j"), (), ("j", "k")), ("u", ("c",), (), ()))
K, J = ("x", "k"), ("x", "j")


class Keys(unittest.TestCase):
    def built(self, *rows, u=()):
        return Database(KEYED, (("t", 50, tuple(enumerate(rows))), ("u", 50, tuple(enumerate(u)))))

    def double(self, column, value, statement, database):
        before = database.data
        with self.assertRaises(Duplicate) as caught:
            meaning(statement, database)
        self.assertEqual((caught.exception.column, caught.exception.value), (column, value))
        self.assertEqual(database.data, before)

    def test_moved_by_all_rows_at_once(self):
        statement = Statement(KEYED, "update", "t", ONE, settings=(("k", K, 1),))
        after = meaning(statement, self.built((1, 7), (2, 8), (3, 9)))[1]
        self.assertEqual(after["t"], ((0, (2, 7)), (1, (3, 8)), (2, (4, 9))))

    def test_exchanged(self):
        statement = Statement(KEYED, "update", "t", ONE, settings=(("j", K, 0), ("k", J, 0)))
        after = meaning(statement, self.built((1, 2), (2, 1)))[1]
        self.assertEqual(after["t"], ((0, (2, 1)), (1, (1, 2))))

    def test_first_column_and_least_value(self):
        statement = Statement(KEYED, "update", "t", ONE, settings=(("j", None, 5), ("k", None, 6)))
        self.double("k", 6, statement, self.built((1, 2), (2, 1)))
        statement = Statement(KEYED, "update", "t", ONE, settings=(("j", None, 5),))
        self.double("j", 5, statement, self.built((1, 2), (2, 1)))
        statement = Statement(KEYED, "update", "t", ONE, conditions=((K, "<=", None, 2),), settings=(("k", K, 2),))
        self.double("k", 3, statement, self.built((2, 0), (1, 1), (3, 2), (4, 3)))

    def test_one_row_is_no_double(self):
        statement = Statement(KEYED, "update", "t", (("x", "t"), ("y", "u")), settings=(("k", None, 5),))
        after = meaning(statement, self.built((1, 2), u=((1,), (2,))))[1]
        self.assertEqual(after["t"], ((0, (5, 2)),))

    def test_inserts(self):
        statement = Statement(KEYED, "insert", "t", (("y", "u"),), settings=(("k", ("y", "c"), 0), ("j", ("y", "c"), 5)))
        self.assertEqual(len(meaning(statement, self.built((1, 2), u=((3,), (4,))))[1]), 5)
        self.double("k", 1, statement, self.built((1, 2), u=((3,), (1,), (3,))))
        self.double("j", 6, statement, self.built((2, 6), u=((1,), (3,))))

    def test_deletes(self):
        statement = Statement(KEYED, "delete", "t", ONE)
        self.assertEqual(meaning(statement, self.built((1, 2), (2, 1)))[1].data, (("t", 50, ()), ("u", 50, ())))


if __name__ == "__main__":
    unittest.main()
