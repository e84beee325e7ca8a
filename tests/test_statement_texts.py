"""Point 11: the texts of statements."""

import random
import unittest

from ownwake.errors import InvalidStatement, InvalidText
from ownwake.schemas import Schema
from ownwake.statements import Statement
from samples import ODD, random_schema, random_statement

SCHEMA = Schema(("t", ("x", "y"), (), ()), ("u", ("y",), (), ()), ("s", ("p", "q"), (), ()), ("r", ("p",), (), ()))
FIRST = "update t from a t, b u"
SET = "set x to a.x + 1"
WORDS = Schema(
    ("from", ("to", "and", "where"), (), ()), ("table", ("set", "tell", "none"), (), ()),
    ("some", ("and", "or"), (), ()))


class Texts(unittest.TestCase):
    def wrong(self, line, text, schema=SCHEMA):
        with self.assertRaises(InvalidText, msg=text) as caught:
            Statement.read(schema, text)
        self.assertEqual(caught.exception.line, line, text)

    def refused(self, part, text, schema=SCHEMA):
        with self.assertRaises(InvalidStatement, msg=text) as caught:
            Statement.read(schema, text)
        self.assertEqual(caught.exception.part, part, text)

    def there_and_back(self, statement, text):
        self.assertEqual(statement.text, text)
        self.assertEqual(Statement.read(statement.schema, text), statement)

    def test_all_lines(self):
        statement = Statement(
            SCHEMA, "update", "t", (("a", "t"), ("b", "u")),
            conditions=((("a", "x"), "<=", ("b", "y"), 3), (("a", "y"), "!=", None, -4),
                        (("a", "y"), "=", ("a", "x"), 0)),
            probes=(("some", "s", (("p", "=", None, 5), ("p", "<=", "q", 1)), ("q", ">=", ("a", "x"), -1)),
                    ("none", "r", (), ("p", "=", ("b", "y"), 0))),
            settings=(("x", ("a", "x"), 1), ("y", None, -9)), told=(("a", "x"), ("b", "y"), ("a", "x")))
        self.there_and_back(statement, "\n".join([
            "update t from a t, b u", "where a.x <= b.y + 3", "where a.y != -4", "where a.y = a.x",
            "some s where q >= a.x - 1 and p = 5 and p <= q + 1", "none r where p = b.y", "set x to a.x + 1",
            "set y to -9", "tell a.x", "tell b.y", "tell a.x"]))

    def test_kinds(self):
        self.there_and_back(Statement(SCHEMA, "delete", "t", (("a", "t"),)), "delete t from a t")
        self.there_and_back(
            Statement(SCHEMA, "insert", "t", (("a", "u"),), settings=(("x", ("a", "y"), -1), ("y", None, 0))),
            "insert t from a u\nset x to a.y - 1\nset y to 0")

    def test_constants(self):
        for k, text in [(0, "0"), (1, "1"), (-1, "-1"), (10 ** 9, "1000000000"), (-10 ** 9, "-1000000000")]:
            self.there_and_back(Statement(SCHEMA, "delete", "t", (("a", "t"),), conditions=((("a", "x"), "=", None, k),)),
                                "delete t from a t\nwhere a.x = " + text)

    def test_ends(self):
        for k, end in [(0, ""), (1, " + 1"), (-1, " - 1"), (25, " + 25"), (-10 ** 9, " - 1000000000")]:
            condition = (("a", "x"), "<=", ("a", "y"), k)
            self.there_and_back(Statement(SCHEMA, "delete", "t", (("a", "t"),), conditions=(condition,)),
                                "delete t from a t\nwhere a.x <= a.y" + end)
            for own, back in [((), ""), ((("p", "=", "q", k),), " and p = q" + end),
                              ((("p", "=", None, 0), ("q", "<=", "q", k)), " and p = 0 and q <= q" + end)]:
                probe = ("none", "s", own, ("p", "<=", ("a", "y"), k))
                self.there_and_back(Statement(SCHEMA, "delete", "t", (("a", "t"),), probes=(probe,)),
                                    "delete t from a t\nnone s where p <= a.y" + end + back)
            setting = ("y", ("a", "y"), k)
            self.there_and_back(Statement(SCHEMA, "update", "t", (("a", "t"),), settings=(setting,)),
                                "update t from a t\nset y to a.y" + end)

    def test_names_that_are_words_of_texts(self):
        statement = Statement(
            WORDS, "update", "from", (("from", "from"), ("none", "table")),
            conditions=((("from", "and"), "<=", ("none", "set"), 3), (("none", "tell"), "=", None, 1)),
            probes=(("none", "some", (("and", "=", "and", -2), ("or", "<=", "and", 0)),
                     ("and", ">=", ("from", "where"), 0)),),
            settings=(("and", ("from", "to"), 0), ("to", ("from", "to"), 1), ("where", None, 7)),
            told=(("from", "to"), ("none", "none")))
        self.there_and_back(statement, "\n".join([
            "update from from from from, none table", "where from.and <= none.set + 3", "where none.tell = 1",
            "none some where and >= from.where and and = and - 2 and or <= and", "set and to from.to",
            "set to to from.to + 1", "set where to 7", "tell from.to", "tell none.none"]))

    def test_many_there_and_back(self):
        source = random.Random(11)
        for _ in range(300):
            schema = random_schema(source)
            statement = random_statement(source, schema)
            again = Statement.read(schema=schema, text=statement.text)
            self.assertEqual(again, statement)
            self.assertEqual(again.text, statement.text)

    def test_no_string_and_no_lines(self):
        for thing in ODD:
            self.wrong(0, thing)
        self.wrong(0, "")

    def test_first_lines_without_the_form(self):
        for line in [
                " ", "update", "update t", "update t from", "update t from ", "update t from a", "update t from a t,",
                "update t from a t, ", "update t from a t,b u", "update t from a t b u", "update t from a t, b",
                "update t from a t, b u ", " update t from a t", "update  t from a t", "update t  from a t",
                "update t from  a t", "update t from a  t", "update t from a t,  b u", "update t from , a t",
                "Update t from a t", "merge t from a t", "select t from a t", "t from a t", "update T from a t",
                "update t From a t", "update t to a t", "update t from A t", "update t from a T", "update t1 from a t",
                "update abcdefghi from a t", "update t from abcdefghi t", "update t from a abcdefghi",
                "update t from a.t t", "update t from a t;", "update t u from a t", "where a.x = 1", "tell a.x",
                "update t from a t\t", "update t from a t\r"]:
            self.wrong(0, line)
            self.wrong(0, line + "\n" + SET)
        self.wrong(0, "\n" + FIRST)

    def test_other_lines_without_the_form(self):
        for line in [
                "", " ", "where", "where ", "where a.x", "where a.x <=", "where a.x <= ", "where a.x 5", "where a.x < 5",
                "where a.x >= 5", "where a.x == 5", "where a.x > 5", "where a.x <> 5", "where a.x<=5", "where x <= 5",
                "where a.x <= x", "where 5 <= a.x", "where 5 = 5", "where a.x <= 5 + 1", "where a.x <= b.y + 0",
                "where a.x <= b.y + -1", "where a.x <= b.y - 0", "where a.x <= b.y +1", "where a.x <= b.y+1",
                "where a.x <= b.y +", "where a.x <= b.y + x", "where a.x <= b.y + a.x", "where a.x <= b.y * 2",
                "where a.x <= b.y + 1 + 1", "where a.x <= b.y 1", "where a.x <= b.y + 01", "where a.x <= 05",
                "where a.x <= -0", "where a.x <= +5", "where a.x <= - 5", "where a.x <= 5 ", "where  a.x <= 5",
                "where a.x  <= 5", " where a.x <= 5", "where a.x <= 5\t", "Where a.x <= 5", "where a. x <= 5",
                "where a..x <= 5", "where a.x.y <= 5", "where .x <= 5", "where a. <= 5", "where A.x <= 5",
                "where a.X <= 5", "where abcdefghi.x <= 5", "where a.abcdefghi <= 5", "where a1.x <= 5",
                "where a.x <= 5 and a.y <= 5", "where not a.x <= 5", "where a.x <= b", "where a.x <= b.",
                "some", "some s", "some s where", "some s where ", "some s where q", "some s where q >=",
                "some s where q >= 5", "some s where q >= q", "some s where q != a.x", "some s where q < a.x",
                "some s where a.x >= q", "some s where s.q >= a.x", "some s where 1 >= a.x", "some S where q >= a.x",
                "some s Where q >= a.x", "some where q >= a.x", "some s q >= a.x", "any s where q >= a.x",
                "some s where q >= a.x and", "some s where q >= a.x and ", "some s where q >= a.x and p",
                "some s where q >= a.x and p =", "some s where q >= a.x and p >= 1", "some s where q >= a.x and p != 1",
                "some s where q >= a.x and p = a.x", "some s where q >= a.x and a.x = 1", "some s where q >= a.x p = 1",
                "some s where q >= a.x, p = 1", "some s where q >= a.x or p = 1", "some s where q >= a.x and p = q + 0",
                "some s where q >= a.x and p = 5 + 1", "some s where q >= a.x and p = q +", "some s where q >= a.x + 0",
                "some s where q >= a.x + 1 and and p = 1", "some s where q >= a.x  and p = 1",
                "some s where q >= a.x and p = 1 ", "some s where q >= a.x and p = 1 and", "some s where q >= a.x + ",
                "some s where q >= a.x and 1 = p", "some s where q >= a.x and p = 1 p = 2", "some  s where q >= a.x",
                "none", "none s where q >= 5", "none s where q >= a.x and p = A", "none s1 where q >= a.x",
                "set", "set x", "set x to", "set x to ", "set x 5", "set x = 5", "set a.x to 5", "set x to x",
                "set x to a.x + 0", "set x to a.x + -1", "set x to 5 + 1", "set x to 1 + a.x", "set x to a.x 1",
                "set x to a.x + 1 + 1", "set X to 5", "set abcdefghi to 5", "set 5 to x", "set x  to 5", "set x to  5",
                "set x to 5 ", "set  x to 5", "set x, y to 5", "set x To 5", "Set x to 5", "set x to -0", "set x to 00",
                "tell", "tell ", "tell x", "tell a.x ", "tell  a.x", "tell a.x, b.y", "tell a.x b.y", "tell 5",
                "tell a.x + 1", "tell A.x", "tell a.", "tell .x", "Tell a.x", "tell a.x.y", "tells a.x",
                "delete t from a t", "update t from a t", "from a t", "and p = 5", "a.x", "x y", "go a.x"]:
            self.wrong(1, FIRST + "\n" + line)
            self.wrong(1, FIRST + "\n" + line + "\ntell a.x\nset")
        self.wrong(2, FIRST + "\n" + SET + "\n")
        self.wrong(2, FIRST + "\nwhere a.x = 1\n\n" + SET)

    def test_order_of_the_lines(self):
        lines = ["where a.x = 1", "some s where q = a.x", "set x to 1", "tell a.x"]
        for late in range(4):
            for early in range(late):
                self.wrong(2, "\n".join([FIRST, lines[late], lines[early]]))
                self.wrong(3, "\n".join([FIRST, lines[late], lines[late], lines[early], "x"]))
        probes = ["none s where q = a.x", "some r where p = a.x"]
        for some in (probes, probes[::-1]):
            text = "\n".join([FIRST, *some, SET])
            self.assertEqual(Statement.read(SCHEMA, text).text, text)
        self.wrong(2, FIRST + "\nset x to 1\nnone s where q = a.x")

    def test_the_first_line_that_counts(self):
        self.wrong(1, FIRST + "\nwhere\nset\nwhere")
        self.wrong(2, FIRST + "\ntell a.x\nwhere a.x = 1\nwhere")

    def test_texts_of_the_form_that_are_no_statement(self):
        for first in ["update z from a z", "update from from a t", "insert z from a t, b u"]:
            self.refused("table", first + "\n" + SET)
        for first in [
                "update t from a u", "update t from a t, a u", "update t from a t, b z", "delete t from a u, b t",
                "update t from a t, b u, c u", "insert t from a t, b u, c s, d s", "delete t from z z"]:
            self.refused("references", first + "\n" + SET)
        for line in ["where a.z = 1", "where z.x = 1", "where a.x = z.x", "where a.x <= b.x + 1"]:
            self.refused("conditions", FIRST + "\n" + line + "\n" + SET)
        self.refused("conditions", "\n".join([FIRST] + ["where a.x = 1"] * 6 + [SET]))
        for line in [
                "some z where q = a.x", "some t where x = a.x", "some u where y = a.x", "some s where z = a.x",
                "some s where q = a.z", "none s where q = z.x", "some s where q = a.x and z = 1",
                "some s where q = a.x and p = z", "some s where q = a.x and p = 1 and p = 2 and p = 3",
                "some s where q = a.x\nnone s where q = a.x"]:
            self.refused("probes", FIRST + "\n" + line + "\n" + SET)
        for lines in [
                "", "\nset z to 1", "\nset x to b.y", "\nset x to a.z", "\nset y to 1\nset x to 1",
                "\nset x to 1\nset x to 1", "\nset x to 1\nset y to 1\nset z to 1"]:
            self.refused("settings", FIRST + lines)
        self.refused("settings", "delete t from a t\nset x to 1")
        self.refused("settings", "insert t from a t\nset x to 1")
        self.refused("settings", "insert t from a t\nset y to 1\nset x to 1")
        for line in ["tell a.z", "tell z.x", "tell b.x"]:
            self.refused("told", FIRST + "\n" + SET + "\n" + line)

    def test_digits(self):
        forty = "9" * 40
        text = FIRST + f"\nwhere a.x = -{forty}\nwhere a.x <= b.y - {forty}\nset x to {forty}"
        self.assertEqual(Statement.read(SCHEMA, text).text, text)
        for line in [f"where a.x = {forty}0", f"where a.x = -{forty}0", f"where a.x = b.y + {forty}0",
                     f"some s where q = a.x + {forty}0", f"some s where q = a.x and p = {forty}0",
                     f"set x to {forty}0", f"set x to a.x - {forty}0"]:
            self.wrong(1, FIRST + "\n" + line)


if __name__ == "__main__":
    unittest.main()
