"""Points 4 and 7: schemas and their texts."""

import itertools
import unittest

from ownwake.errors import InvalidSchema, InvalidText, NoTable
from ownwake.schemas import Schema
from samples import ODD, is_plain

T = ("t", ("a", "b"), ("a",), ("b",))
U = ("u", ("c",), (), ())
V = ("abcdefgh", ("z", "a", "m"), ("a", "m", "z"), ("a", "z"))
WRONG_TABLES = [
    ("t", ("a", "b"), ("a",)),
    ("t", ("a", "b"), ("a",), ("b",), ()),
    ["t", ("a", "b"), ("a",), ("b",)],
    ("t", ["a", "b"], ("a",), ("b",)),
    ("t", ("a", "b"), ["a"], ("b",)),
    ("t", ("a", "b"), ("a",), ["b"]),
    ("t", "ab", ("a",), ("b",)),
    ("t", ("a", "b"), "a", ("b",)),
    ("t", ("a", "b"), ("a",), "b"),
    ("t", ("a", "a"), (), ()),
    ("t", ("a", "b", "a"), (), ()),
    ("t", (), (), ()),
    ("t", ("a", "b", "c", "d"), (), ()),
    ("t", ("a", "b"), ("b", "a"), ()),
    ("t", ("a", "b"), (), ("b", "a")),
    ("t", ("a", "b"), ("a", "a"), ()),
    ("t", ("a", "b"), (), ("b", "b")),
    ("t", ("a", "b"), ("c",), ()),
    ("t", ("a", "b"), (), ("c",)),
    ("t", ("a", "b"), ("a", "c"), ()),
    ("t", ("a", "b"), (None,), ()),
    ("t", ("a", "b"), (), (0,)),
    ("t", ("a", "b"), (("a",),), ()),
    ("t", ("a", "b"), None, ()),
    ("t", ("a", "b"), (), None),
    ("", ("a",), (), ()),
    ("abcdefghi", ("a",), (), ()),
    ("T", ("a",), (), ()),
    ("t1", ("a",), (), ()),
    ("t ", ("a",), (), ()),
    ("t\n", ("a",), (), ()),
    (0, ("a",), (), ()),
    (None, ("a",), (), ()),
    (("t",), ("a",), (), ()),
    (["t"], ("a",), (), ()),
    ("t", ("",), (), ()),
    ("t", ("abcdefghi",), (), ()),
    ("t", ("A",), (), ()),
    ("t", ("a", "B"), (), ()),
    ("t", ("a", 0), (), ()),
    ("t", ("a", None), (), ()),
    ("t", ("a", ["b"]), (), ()),
    ("t", ("a", {}), (), ()),
]


class Schemas(unittest.TestCase):
    def wrong(self, part, *tables):
        with self.assertRaises(InvalidSchema) as caught:
            Schema(*tables)
        self.assertEqual(caught.exception.part, part)

    def test_right_tables_in_any_order(self):
        for tables in itertools.permutations([T, U, V]):
            schema = Schema(*tables)
            self.assertEqual(schema.tables, (V, T, U))
            self.assertEqual(len(schema), 3)
            self.assertTrue(is_plain(schema.tables))
            self.assertEqual(schema.text, Schema(T, U, V).text)

    def test_no_table(self):
        schema = Schema()
        self.assertEqual((schema.tables, len(schema), schema.text), ((), 0, ""))
        self.assertNotIn("t", schema)

    def test_names_of_one_and_of_eight_letters(self):
        table = ("zzzzzzzz", ("a", "abcdefgh", "z"), ("a", "abcdefgh", "z"), ("abcdefgh",))
        self.assertEqual(Schema(table).tables, (table,))

    def test_five_tables(self):
        tables = [(name, ("a",), (), ()) for name in "edcba"]
        self.assertEqual(Schema(*tables).tables, tuple(reversed(tables)))
        self.wrong(4, *tables[:4], tables[0])
        self.wrong(5, *tables, None)

    def test_wrong_tables(self):
        for table in WRONG_TABLES:
            self.wrong(0, table)
            self.wrong(0, table, T)
            self.wrong(1, U, table)
            self.wrong(2, U, V, table, table)

    def test_other_values(self):
        for thing in ODD:
            self.wrong(0, thing)
            self.wrong(1, T, thing, U)

    def test_a_name_twice(self):
        self.wrong(1, T, T)
        self.wrong(2, T, U, ("t", ("a",), (), ()))
        self.wrong(1, T, ("t", (), (), ()), T)
        self.wrong(3, T, U, V, U)

    def test_a_table_by_its_name(self):
        schema = Schema(U, T)
        self.assertEqual(schema["t"], T)
        self.assertEqual(schema["u"], U)
        self.assertIn("t", schema)
        self.assertNotIn("v", schema)

    def test_names_of_any_kind(self):
        schema = Schema(U)
        for name in ODD + ["v", "U", "u ", ("u",), ["u"]]:
            self.assertIs(name in schema, False)
            with self.assertRaises(NoTable) as caught:
                schema[name]
            self.assertIs(caught.exception.name, name)

    def test_a_schema_is_not_gone_through(self):
        with self.assertRaises(TypeError):
            list(Schema(T))

    def test_equality(self):
        self.assertEqual(Schema(T, U), Schema(U, T))
        self.assertNotEqual(Schema(T), Schema(U))
        self.assertNotEqual(Schema(T), Schema(T, U))
        self.assertNotEqual(Schema(("t", ("a", "b"), (), ("b",))), Schema(T))
        self.assertEqual(Schema(), Schema())
        for thing in ODD + [(T,), Schema(T).text]:
            self.assertIs(Schema(T) == thing, False)
            self.assertIs(Schema() == thing, False)


class Texts(unittest.TestCase):
    def wrong(self, line, text):
        with self.assertRaises(InvalidText) as caught:
            Schema.read(text)
        self.assertEqual(caught.exception.line, line, text)

    def test_text(self):
        self.assertEqual(Schema(T, U, V).text, "\n".join([
            "table abcdefgh (z, a, m) index a index m index z key a key z",
            "table t (a, b) index a key b",
            "table u (c)"]))
        self.assertEqual(Schema(("t", ("a",), (), ("a",))).text, "table t (a) key a")

    def test_there_and_back(self):
        words = ("table", "index", "key")
        for size in range(4):
            for columns in itertools.permutations(words, size):
                if columns:
                    some = [tuple(sorted(part)) for k in range(size + 1) for part in itertools.combinations(columns, k)]
                    for indexes, keys in itertools.product(some, some):
                        schema = Schema(("key", columns, indexes, keys), T)
                        self.assertEqual(Schema.read(schema.text), schema)
                        self.assertEqual(Schema.read(schema.text).text, schema.text)

    def test_no_lines(self):
        self.assertEqual(Schema.read(""), Schema())

    def test_no_string(self):
        for thing in ODD:
            if not isinstance(thing, str):
                self.wrong(0, thing)

    def test_lines_without_the_form(self):
        for line in [
                "\n", " ", "t", "table", "table ", "table t", "table t ", "table t ()", "table t ( )", "table t (a",
                "table t a)", "table t(a)", "table  t (a)", " table t (a)", "table t (a) ", "table t (a)  index a",
                "table t (a,b)", "table t (a,  b)", "table t (a, )", "table t (, a)", "table t (a b)", "table t ( a)",
                "table t (a )", "table t (a))", "table t ((a)", "Table t (a)", "tables t (a)", "table T (a)",
                "table t1 (a)", "table abcdefghi (a)", "table t (abcdefghi)", "table t (A)", "table t (a) index",
                "table t (a) index ", "table t (a) index a key", "table t (a) key a index a", "table t (a) index a a",
                "table t (a) index (a)", "table t (a) indexes a", "table t (a) keys a", "table t (a)index a",
                "table t (a) index a, b", "table t (a) index A", "table t (a) key abcdefghi", "table t (a) key 1",
                "table t (a)\t", "table t (a)\r", "\ttable t (a)", "table t (a) index a index", "create table t (a)",
                "table t (a) key a index a key a", "table t u (a)", "t (a)", "table (a)", "(a)", ")(", "table t (a);"]:
            self.wrong(0, line)
            self.wrong(1, "table a (a)\n" + line)
            self.wrong(0, line + "\ntable z (a)")
        self.wrong(1, "table t (a)\n")
        self.wrong(0, "\ntable t (a)")
        self.wrong(1, "table t (a)\n\ntable u (a)")

    def test_the_first_line_counts(self):
        self.wrong(1, "table a (a)\ntable b\ntable c\n")

    def test_order_of_the_tables(self):
        self.wrong(1, "table u (c)\ntable t (a)")
        self.wrong(1, "table t (a)\ntable t (b)")
        self.wrong(2, "table a (a)\ntable c (a)\ntable b (a)")
        # A line of the wrong form comes before a later one out of order.
        self.wrong(1, "table b (a)\ntable ( \ntable a (a)")

    def test_texts_of_the_form_that_tell_no_schema(self):
        for line in [
                "table t (a, a)", "table t (a, b, c, d)", "table t (a) index b", "table t (a) key b",
                "table t (a, b) index b index a", "table t (a, b) key b key a", "table t (a) index a index a",
                "table t (a) key a key a", "table t (a, b, c, d, e) index q key q"]:
            for before in range(3):
                text = "\n".join([f"table a{name} (a)" for name in "ab"[:before]] + [line])
                with self.assertRaises(InvalidSchema) as caught:
                    Schema.read(text)
                self.assertEqual(caught.exception.part, before)

    def test_form_before_the_error_of_the_constructor(self):
        self.wrong(1, "table t (a, a)\ntable")

    def test_five_lines(self):
        schema = Schema(*[(name, ("a",), (), ()) for name in "abcde"])
        self.assertEqual(Schema.read(schema.text), schema)


if __name__ == "__main__":
    unittest.main()
