"""Points 5, 6 and 7: databases, when they are alike, and their texts."""

import unittest

from ownwake.databases import Database
from ownwake.errors import Duplicate, InvalidDatabase, InvalidText, NoRow, NoTable
from ownwake.schemas import Schema
from samples import ODD, is_plain

SCHEMA = Schema(("t", ("b", "a"), ("a",), ("a", "b")), ("u", ("c",), (), ()), ("v", ("c", "d", "e"), (), ("d",)))
DATA = (
    ("t", 9, ((0, (1, 2)), (3, (2, 1)), (8, (-5, 10 ** 12)))),
    ("u", 2, ((0, (7,)), (1, (7,)))),
    ("v", 4, ()),
)
FULL = Database(SCHEMA, DATA)


class Databases(unittest.TestCase):
    def wrong(self, part, data, schema=SCHEMA):
        with self.assertRaises(InvalidDatabase) as caught:
            Database(schema, data)
        self.assertEqual(caught.exception.part, part, data)

    def double(self, column, value, data, schema=SCHEMA):
        with self.assertRaises(Duplicate) as caught:
            Database(schema, data)
        self.assertEqual((caught.exception.column, caught.exception.value), (column, value))

    def test_right_data(self):
        self.assertEqual(FULL.data, DATA)
        self.assertEqual(FULL.schema, SCHEMA)
        self.assertTrue(is_plain(FULL.data))
        self.assertEqual(len(FULL), 5)
        self.assertEqual(Database(data=DATA, schema=SCHEMA), FULL)

    def test_lacking_tables(self):
        empty = (("t", 0, ()), ("u", 0, ()), ("v", 0, ()))
        self.assertEqual(Database(SCHEMA).data, empty)
        self.assertEqual(Database(SCHEMA, ()).data, empty)
        self.assertEqual(Database(SCHEMA, (DATA[1],)).data, (empty[0], DATA[1], empty[2]))
        self.assertEqual(Database(SCHEMA, (DATA[0], DATA[2])).data, (DATA[0], empty[1], DATA[2]))
        self.assertEqual(len(Database(SCHEMA)), 0)
        self.assertEqual(Database(Schema()).data, ())

    def test_any_size(self):
        rows = tuple((number, (number % 5,)) for number in range(500))
        database = Database(SCHEMA, (("u", 500, rows),))
        self.assertEqual(len(database), 500)
        self.assertEqual(database["u"], rows)

    def test_data_that_is_no_ascending_tuple_of_triples(self):
        t, u, v = DATA
        for data in [
                [t, u], [t], {"t": t}, None, 0, "t", "", True, t, ("t",), (t, None), (t, "u"), (list(t),), (t[:2],),
                ((*t, ()),), (u, t), (t, t), (t, u, u), (v, u), (t, v, u), (("w", 0, ()),), (t, ("w", 0, ())),
                (("T", 0, ()),), (("", 0, ()),), ((None, 0, ()),), ((0, 0, ()),), (((), 0, ()),), ((["t"], 0, ()),),
                ((("t",), 0, ()),), (({}, 0, ()),)]:
            self.wrong("", data)
        self.wrong("", (("t", 0, ()),), Schema())

    def test_other_values(self):
        for thing in ODD:
            if thing != ():
                self.wrong("", thing)

    def test_wrong_parts(self):
        row = (0, (1, 2))
        for following, rows in [
                (True, ()), (False, ()), (-1, ()), (None, ()), ("0", ()), ((), ()), ((0,), ()), ([0], ()),
                (1, None), (1, 0), (1, ""), (1, [row]), (1, {0: (1, 2)}), (1, []), (1, row),
                (1, (None,)), (1, (0,)), (1, ([0, (1, 2)],)), (1, ((0,),)), (1, ((0, (1, 2), ()),)),
                (0, (row,)), (1, ((1, (1, 2)),)), (1, ((-1, (1, 2)),)), (1, ((True, (1, 2)),)),
                (2, ((True, (1, 2)),)), (1, ((False, (1, 2)),)), (1, ((None, (1, 2)),)), (1, (("0", (1, 2)),)),
                (1, (((0,), (1, 2)),)),
                (1, ((0, [1, 2]),)), (1, ((0, (1,)),)), (1, ((0, (1, 2, 3)),)), (1, ((0, ()),)), (1, ((0, None),)),
                (1, ((0, (True, 2)),)), (1, ((0, (1, False)),)), (1, ((0, (1, None)),)), (1, ((0, (1, "2")),)),
                (1, ((0, (1, (2,))),)), (1, ((0, 12),)), (1, ((0, "ab"),)),
                (9, ((1, (1, 2)), (0, (3, 4)))), (9, (row, row)), (9, (row, (0, (3, 4)))),
                (9, ((0, (1, 1)), (2, (2, 2)), (1, (3, 3)))), (3, ((0, (1, 1)), (3, (2, 2))))]:
            self.wrong("t", (("t", following, rows),))
            self.wrong("t", (("t", following, rows), ("u", -1, ())))
            self.wrong("t", (("t", following, rows), ("v", 2, ((0, (1, 2, 3)), (1, (1, 2, 3))))))
            self.wrong("", (("u", 0, ()), ("t", following, rows)))

    def test_the_least_wrong_table(self):
        self.wrong("u", (DATA[0], ("u", 0, ((0, (1,)),)), ("v", 0, None)))
        self.wrong("v", (DATA[0], ("v", None, ())))

    def test_wrong_before_double(self):
        self.wrong("v", (("t", 2, ((0, (1, 1)), (1, (1, 1)))), ("v", 0, None)))

    def test_keys(self):
        # The order of the table's columns is b, a, although the keys are written a, b.
        self.double("b", 1, (("t", 2, ((0, (1, 4)), (1, (1, 4)))),))
        self.double("a", 4, (("t", 2, ((0, (1, 4)), (1, (2, 4)))),))
        self.double("b", -3, (("t", 4, ((0, (1, 0)), (1, (-3, 1)), (2, (1, 2)), (3, (-3, 3)))),))
        self.double("b", 3, (("t", 4, ((0, (3, 0)), (1, (2, 1)), (2, (3, 2)), (3, (3, 0)))),))
        self.double("d", 0, (("v", 2, ((0, (1, 0, 2)), (1, (1, 0, 3)))),))
        self.double("a", 7, (("t", 2, ((0, (1, 7)), (1, (2, 7)))), ("v", 2, ((0, (1, 0, 2)), (1, (1, 0, 3))))))
        Database(SCHEMA, (("v", 2, ((0, (1, 0, 2)), (1, (1, 1, 2)))),))

    def test_rows_of_a_table(self):
        self.assertEqual(FULL["t"], DATA[0][2])
        self.assertEqual(FULL["v"], ())
        for name in ODD + ["w", "T", ("u",), ["u"]]:
            if name != "t":
                for ask in (FULL.__getitem__, lambda name: FULL.row(name, 0), lambda name: FULL.with_row(name, 1)):
                    with self.assertRaises(NoTable) as caught:
                        ask(name)
                    self.assertIs(caught.exception.name, name)

    def test_a_row(self):
        self.assertEqual(FULL.row("t", 3), (2, 1))
        self.assertEqual(FULL.row(name="u", number=1), (7,))
        for number in [1, 2, 9, -1, 10 ** 39, None, True, False, "0", (0,), [0], {}, (), "t"]:
            with self.assertRaises(NoRow) as caught:
                FULL.row("t", number)
            self.assertEqual(caught.exception.name, "t")
            self.assertIs(caught.exception.number, number)
        with self.assertRaises(NoTable):
            FULL.row("w", True)

    def test_whether_there_is_a_row(self):
        self.assertIn(("t", 0), FULL)
        self.assertIn(("t", 8), FULL)
        self.assertIn(("u", 1), FULL)
        for thing in ODD + [
                ("t", 1), ("v", 0), ("w", 0), ("t", False), ("u", True), ["t", 0], ("t",), ("t", 0, 0), ("t", "0"),
                ("t", [0]), (["t"], 0), ("t", None), (None, 0), ({}, {}), (0, "t"), "t0", ("t", -1)]:
            if thing != ("t", 0):
                self.assertIs(thing in FULL, False)

    def test_with_row(self):
        more = FULL.with_row("u", 7)
        self.assertEqual(more.data, (DATA[0], ("u", 3, (*DATA[1][2], (2, (7,)))), DATA[2]))
        self.assertEqual(FULL.data, DATA)
        self.assertTrue(is_plain(more.data))
        self.assertEqual(FULL.with_row("v", 1, 2, 3).row("v", 4), (1, 2, 3))
        twice = Database(SCHEMA).with_row("u", 5).with_row("u", 5)
        self.assertEqual(twice["u"], ((0, (5,)), (1, (5,))))

    def test_numbers_are_not_used_again(self):
        # Row 9 was there once: the next number tells it.
        database = Database(SCHEMA, (("u", 10, ((0, (1,)),)),)).with_row("u", 2)
        self.assertEqual(database.data[1], ("u", 11, ((0, (1,)), (10, (2,)))))
        self.assertNotIn(("u", 1), database)

    def test_wrong_rows(self):
        for values in [(), (1,), (1, 2, 3), (1, True), (False, 2), (None, 2), ("1", 2), ((1,), 2), ([1], 2), (1, {})]:
            with self.assertRaises(InvalidDatabase) as caught:
                FULL.with_row("t", *values)
            self.assertEqual(caught.exception.part, "t")
        for thing in ODD:
            if type(thing) is not int:
                with self.assertRaises(InvalidDatabase):
                    FULL.with_row("u", thing)

    def test_double_rows(self):
        for values, column, value in [((1, 9), "b", 1), ((9, 2), "a", 2), ((2, 2), "b", 2), ((-5, 1), "b", -5)]:
            with self.assertRaises(Duplicate) as caught:
                FULL.with_row("t", *values)
            self.assertEqual((caught.exception.column, caught.exception.value), (column, value))
        self.assertEqual(FULL.data, DATA)

    def test_equality(self):
        self.assertEqual(FULL, Database(SCHEMA, DATA))
        self.assertEqual(Database(SCHEMA), Database(SCHEMA, (("u", 0, ()),)))
        self.assertNotEqual(FULL, Database(SCHEMA, DATA[:2]))
        self.assertNotEqual(Database(SCHEMA), Database(SCHEMA, (("u", 1, ()),)))
        self.assertNotEqual(FULL, FULL.with_row("u", 1))
        other = Schema(*[(*table[:3], ()) for table in SCHEMA.tables])
        self.assertNotEqual(Database(other, DATA), FULL)
        for thing in ODD + [DATA, SCHEMA, FULL.text]:
            self.assertIs(FULL == thing, False)

    def test_it_is_not_gone_through(self):
        with self.assertRaises(TypeError):
            list(FULL)


class Alike(unittest.TestCase):
    BEFORE = (("u", 3, ((0, (1,)), (2, (2,)))), ("v", 0, ()))

    def built(self, *rows, following=50, others=()):
        return Database(SCHEMA, (("u", following, rows), ("v", 50, others)))

    def check(self, expected, one, other):
        before = Database(SCHEMA, self.BEFORE)
        self.assertIs(one.alike(other, before), expected)
        self.assertIs(other.alike(one, before), expected)
        self.assertIs(one.alike(other=other, before=before), expected)

    def test_the_same(self):
        before = Database(SCHEMA, self.BEFORE)
        self.check(True, before, before)

    def test_other_numbers_and_next_numbers(self):
        one = self.built((0, (1,)), (3, (5,)), (4, (6,)))
        self.check(True, one, self.built((0, (1,)), (3, (6,)), (9, (5,)), following=10))
        self.check(False, one, self.built((0, (1,)), (3, (6,)), (9, (4,)), following=10))

    def test_as_often(self):
        one = self.built((3, (5,)), (4, (5,)), (5, (6,)))
        self.check(True, one, self.built((7, (6,)), (8, (5,)), (9, (5,))))
        self.check(False, one, self.built((7, (6,)), (8, (6,)), (9, (5,))))
        self.check(False, one, self.built((7, (6,)), (8, (5,))))
        self.check(False, one, self.built((7, (6,)), (8, (5,)), (9, (5,)), (10, (5,))))

    def test_an_old_row(self):
        one = self.built((0, (1,)), (2, (2,)), (3, (9,)))
        self.check(False, one, self.built((0, (1,)), (2, (3,)), (3, (9,))))
        self.check(False, one, self.built((0, (1,)), (3, (9,))))
        # An old number that the beginning does not have counts as an old row, too.
        self.check(False, self.built((0, (1,)), (1, (7,))), self.built((0, (1,)), (2, (7,))))
        # The last old number, and the first new one.
        self.check(False, self.built((2, (7,))), self.built((3, (7,))))
        self.check(True, self.built((3, (7,))), self.built((4, (7,))))

    def test_each_table(self):
        one = self.built((0, (1,)), others=((0, (1, 2, 3)), (1, (1, 3, 3))))
        self.check(True, one, self.built((0, (1,)), others=((4, (1, 3, 3)), (5, (1, 2, 3)))))
        self.check(False, one, self.built((0, (1,)), others=((4, (1, 3, 3)), (5, (3, 2, 1)))))
        self.check(False, one, self.built((0, (1,))))

    def test_another_schema(self):
        other = Schema(*[(*table[:2], (), ()) for table in SCHEMA.tables])
        self.check(False, Database(SCHEMA), Database(other))


class Texts(unittest.TestCase):
    def wrong(self, line, text, schema=SCHEMA):
        with self.assertRaises(InvalidText) as caught:
            Database.read(schema, text)
        self.assertEqual(caught.exception.line, line, text)

    def test_text(self):
        self.assertEqual(FULL.text, "\n".join([
            "t next 9", "0: 1, 2", "3: 2, 1", "8: -5, 1000000000000", "u next 2", "0: 7", "1: 7", "v next 4"]))
        self.assertEqual(Database(SCHEMA).text, "t next 0\nu next 0\nv next 0")
        self.assertEqual(Database(Schema()).text, "")

    def test_there_and_back(self):
        words = Schema(("next", ("next", "key"), (), ()), ("table", ("a",), (), ()))
        odd = Database(words, (("next", 8, ((7, (0, -1)),)), ("table", 1, ((0, (-10,)),))))
        for database in [FULL, Database(SCHEMA), Database(Schema()), odd]:
            again = Database.read(database.schema, database.text)
            self.assertEqual(again, database)
            self.assertEqual(again.text, database.text)
        self.assertEqual(Database.read(text=FULL.text, schema=SCHEMA), FULL)

    def test_no_string(self):
        for thing in ODD:
            if not isinstance(thing, str):
                self.wrong(0, thing)
                self.wrong(0, thing, Schema())

    def test_no_lines(self):
        self.assertEqual(Database.read(Schema(), ""), Database(Schema()))
        self.wrong(0, "")

    def test_tables_without_a_line(self):
        self.wrong(2, "t next 0\nu next 0")
        self.wrong(2, "u next 0\nv next 0")
        self.wrong(3, "t next 1\n0: 1, 2\nv next 0")
        # A line without the form comes first, and an unknown table is of the form.
        self.wrong(1, "t next 0\nu  next 0")
        self.wrong(2, "a next 0\nt next 0")

    def test_lines_without_the_form(self):
        for line in [
                "", " ", "next", "u", "u next", "u next ", "u  next 1", "u next 1 ", " u next 1", "u Next 1", "U next 1",
                "u next -1", "u next 01", "u next +1", "u next 1.0", "u next x", "u next -0", "abcdefghi next 1",
                "u1 next 1", "u next 1: 2", "u next 1, 2", "u: next 1", "unext 1", "u next" + " 1" * 2,
                "0", "0:", "0: ", "0:1", "0 : 1", " 0: 1", "0:  1", "0: 1 ", "0: 1,", "0: 1, ", "0: 1,2", "0: , 1",
                "0: 1,  2", "0: 1; 2", "0: 1 2", "-1: 1", "-0: 1", "00: 1", "01: 1", "0: 01", "0: -0", "0: -01",
                "0: +1", "0: --1", "0: - 1", "0: -", "0: x", "0: 1.5", "x: 1", "0: 1_0", "0: 1: 2", ": 1", "0: 1\t",
                "0: 1\r", "0: 0x1", "0: 1e3"]:
            self.wrong(1, "t next 9\n" + line + "\nu next 1\nv next 0")
            self.wrong(2, "t next 9\n0: 4, 4\n" + line)
        self.wrong(0, "\nt next 0\nu next 0\nv next 0")
        self.wrong(3, "t next 0\nu next 0\nv next 0\n")
        self.wrong(0, "\n")

    def test_digits(self):
        schema = Schema(("t", ("a",), (), ()))
        for digits in ["9" * 40, "1" + "0" * 39]:
            for sign in ["", "-"]:
                self.assertEqual(Database.read(schema, f"t next 1\n0: {sign}{digits}")["t"],
                                 ((0, (int(sign + digits),)),))
                self.wrong(1, f"t next 1\n0: {sign}{digits}0", schema)
            self.assertEqual(Database.read(schema, f"t next {digits}").data, (("t", int(digits), ()),))
            self.wrong(0, f"t next {digits}0", schema)
            self.wrong(1, f"t next 1\n{digits}0: 1", schema)
            with self.assertRaises(InvalidDatabase):
                Database.read(schema, f"t next 1\n{digits}: 1")

    def test_order(self):
        self.wrong(1, "u next 0\nt next 0\nv next 0")
        self.wrong(1, "t next 0\nt next 0\nu next 0\nv next 0")
        self.wrong(0, "0: 1, 2\nt next 3\nu next 0\nv next 0")
        self.wrong(2, "t next 9\n1: 1, 2\n0: 3, 4\nu next 0\nv next 0")
        self.wrong(2, "t next 9\n1: 1, 2\n1: 3, 4\nu next 0\nv next 0")
        self.wrong(2, "t next 9\n10: 1, 2\n9: 3, 4\nu next 0\nv next 0")
        # Another table's rows begin anew.
        self.assertEqual(len(Database.read(SCHEMA, "t next 9\n5: 1, 2\nu next 4\n2: 1\n3: 1\nv next 0")), 3)

    def test_texts_of_the_form_that_tell_no_database(self):
        for text, part in [
                ("a next 0\nt next 0\nu next 0\nv next 0", ""), ("t next 0\nu next 0\nv next 0\nw next 3\n0: 1", ""),
                ("t next 0\n0: 1, 2\nu next 0\nv next 0", "t"), ("t next 9\n0: 1\nu next 0\nv next 0", "t"),
                ("t next 0\nu next 1\n0: 1, 2\nv next 0", "u"), ("t next 0\nu next 0\nv next 1\n0: 1, 2, 3, 4", "v")]:
            with self.assertRaises(InvalidDatabase) as caught:
                Database.read(SCHEMA, text)
            self.assertEqual(caught.exception.part, part)
        with self.assertRaises(Duplicate) as caught:
            Database.read(SCHEMA, "t next 9\n0: 1, 2\n1: 3, 2\nu next 0\nv next 0")
        self.assertEqual((caught.exception.column, caught.exception.value), ("a", 2))


if __name__ == "__main__":
    unittest.main()
