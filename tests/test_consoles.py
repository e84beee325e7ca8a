"""Point 37: consoles, line by line."""

import random
import time
import unittest

from lively import lively_database, lively_statement
from ownwake.consoles import Console
from ownwake.databases import Database
from ownwake.deciding import decide
from ownwake.errors import Duplicate, Empty, InvalidLine, InvalidStatement
from ownwake.plans import Plan
from ownwake.schemas import Schema
from ownwake.statements import Statement
from ownwake.stores import Store
from samples import ODD, deep

ADD = "update t from x t; where x.a <= 5; set a to x.a + 2"


def told(*lines):
    """A console to which lines have been said."""
    console = Console()
    for line in lines:
        console.say(line)
    return console


def few_indexes(schema):
    """The schema in which each table has its first index alone."""
    return Schema(*[(name, columns, indexes[:1], keys) for name, columns, indexes, keys in schema.tables])


def small():
    return told("table t (a, b) index a", "table u (k) key k", "row t 1 0", "row t 4 0", "row u 2")


class ConsoleTest(unittest.TestCase):
    def say(self, console, *pairs):
        for line, answer in pairs:
            found = console.say(line)
            self.assertEqual(found, answer, line)
            self.assertIs(type(found), str)

    def seen(self, console):
        store = console.store
        return store.schema.tables, store.database.data, len(store), store.hands

    def refuses(self, console, line, kind=InvalidLine, **fields):
        """Whether a line raises an error with these fields, and changes nothing."""
        before = self.seen(console)
        with self.assertRaises(kind) as caught:
            console.say(line)
        if kind is InvalidLine:
            self.assertIs(caught.exception.line, line)
        else:
            self.assertEqual(vars(caught.exception), fields)
        self.assertEqual(self.seen(console), before)


class Tables(ConsoleTest):
    def test_a_new_console(self):
        console = Console()
        self.assertEqual(self.seen(console), ((), (), 0, "one"))
        self.assertIs(type(console.store), Store)
        self.refuses(console, "undo", Empty)
        for line in ("row t 1", "show t"):
            self.refuses(console, line)
        self.refuses(console, "do delete t from x t", InvalidStatement, part="table")

    def test_tables_in_any_order_of_names(self):
        console = Console()
        self.say(console, ("table t (a, b) index a", "ok"), ("row t 1 2", "0"), ("table abc (q)", "ok"),
                 ("table zebra (b, a, c) index a key b key c", "ok"), ("table u (k) index k key k", "ok"))
        self.assertEqual(console.store.schema, Schema(
            ("abc", ("q",), (), ()), ("t", ("a", "b"), ("a",), ()), ("u", ("k",), ("k",), ("k",)),
            ("zebra", ("b", "a", "c"), ("a",), ("b", "c"))))
        self.assertEqual(console.store.database.data, (("abc", 0, ()), ("t", 1, ((0, (1, 2)),)), ("u", 0, ()), ("zebra", 0, ())))

    def test_a_fifth_one(self):
        console = told("table d (a)", "table c (a)", "table b (a)", "table a (a)")
        for line in ("table e (a)", "table a (a)"):
            self.refuses(console, line)
        self.assertEqual(len(console.store.schema), 4)

    def test_one_that_is_there(self):
        console = small()
        for line in ("table t (a, b) index a", "table t (z)", "table u (q)"):
            self.refuses(console, line)

    def test_what_is_no_table(self):
        for line in ["table", "table ", "table t", "table t ()", "table t(a)", "table t (a) ", "table  t (a)", "table t  (a)",
                     "table t (a,b)", "table t (a,  b)", "table t (a) index", "table t (a) index b", "table t (a) key b",
                     "table t (a) key a index a", "table t (a, b) index a index b", "table t (a, b) index b index a",
                     "table t (a, b) key b key a", "table t (a, b) key a key a", "table t (a) index a index a", "table t (a, a)",
                     "table t (a, b, c, d)", "table T (a)", "table tablename (abcdefghi)", "table abcdefghi (a)", "table t (A)",
                     "table t (1)", "table 1 (a)", " table t (a)", "TABLE t (a)", "table t (a)\n", "table t (a)\ntable u (a)",
                     "table t (a) index a ", "table t (a)  index a", "table t (a); table u (a)", "create table t (a)", "tablet (a)"]:
            self.refuses(told("table v (a)"), line)
        for line in ("table t (a, b, c) index b key a key b key c", "table abcdefgh (abcdefgh)", "table table (table) index table"):
            self.say(told("table v (a)"), (line, "ok"))

    def test_nothing_to_undo_behind_a_table(self):
        console = small()
        self.say(console, ("undo", "ok"), ("table v (a)", "ok"))
        self.assertEqual(len(console.store), 0)
        self.refuses(console, "undo", Empty)
        self.say(console, ("show t", "0: 1, 0; 1: 4, 0"), ("row t 5 5", "2"), ("row u 3", "0"), ("undo", "ok"), ("undo", "ok"))
        self.refuses(console, "undo", Empty)
        self.say(console, ("show t", "0: 1, 0; 1: 4, 0"), ("show u", "none"))
        # A line that is refused leaves what can be undone.
        console = small()
        self.refuses(console, "table t (a)")
        self.say(console, ("undo", "ok"), ("undo", "ok"), ("undo", "ok"))

    def test_the_store_goes_on(self):
        console = Console()
        store = console.store
        console.say("table t (a)")
        self.assertEqual(store.schema, console.store.schema)
        self.assertEqual(store.put("t", 5), 0)
        self.say(console, ("show t", "0: 5"), ("undo", "ok"))
        self.assertEqual(len(store), 0)

    def test_tables_in_blocks_of_the_store(self):
        console = small()

        def work(store, fails):
            store.put("t", 9, 9)
            console.say("table v (a)")
            self.assertRaises(Empty, store.undo)
            store.put("v", 1)
            if fails:
                raise KeyError(fails)

        self.assertRaises(KeyError, console.store.together, work, True)
        # The block went back to where there was nothing to undo.
        self.assertEqual(self.seen(console)[2], 0)
        self.say(console, ("show v", "none"), ("show t", "0: 1, 0; 1: 4, 0; 2: 9, 9"))
        console = small()
        console.store.together(lambda store: store.together(work, False))
        self.say(console, ("show v", "0: 1"), ("undo", "ok"))
        self.refuses(console, "undo", Empty)


class Rows(ConsoleTest):
    def test_row_and_show(self):
        console = told("table t (a, b)", "table u (k) key k")
        self.say(console, ("show t", "none"), ("row t 1 -2", "0"), ("row t 0 0", "1"), ("show t", "0: 1, -2; 1: 0, 0"),
                 ("row u -7", "0"), ("show u", "0: -7"), ("do delete t from x t; where x.a = 1", "0"), ("show t", "1: 0, 0"),
                 ("row t 5 5", "2"), ("show t", "1: 0, 0; 2: 5, 5"), ("do delete t from x t", "1; 2"), ("show t", "none"))

    def test_great_numbers(self):
        console = told("table t (a)")
        digits = "9" * 40
        self.say(console, (f"row t {digits}", "0"), (f"row t -{digits}", "1"), ("show t", f"0: {digits}; 1: -{digits}"),
                 (f"do update t from x t; where x.a = {digits}; set a to x.a + {digits}; tell x.a", f"0: {digits}"),
                 ("show t", f"0: 1{'9' * 39}8; 1: -{digits}"))
        for word in ("1" + digits, "-1" + digits):
            self.refuses(console, f"row t {word}")
            self.refuses(console, f"do update t from x t; set a to {word}")

    def test_wrong_rows(self):
        console = small()
        for line in ["row", "row ", "row t", "row t ", "row t 1", "row t 1 2 3", "row t 1 2 ", "row t  1 2", "row  t 1 2", "row v 1",
                     "row T 1 2", "row t a b", "row t 01 2", "row t 1 -0", "row t +1 2", "row t 1, 2", "row t 1 2;", "row t 1.0 2",
                     "row t 1 --2", "row t 1 -", "row t 1_0 2", "row t 1 None", "Row t 1 2", " row t 1 2", "row t 1 2\n", "row\nt 1 2",
                     "row t 1\n2", "rows t 1 2", "row u 1 2", "row u"]:
            self.refuses(console, line)

    def test_duplicates(self):
        console = small()
        self.refuses(console, "row u 2", Duplicate, column="k", value=2)
        # The number of values is looked at first.
        self.refuses(console, "row u 2 2")
        self.say(console, ("row u 3", "1"))

    def test_wrong_shows(self):
        console = small()
        for line in ["show", "show ", "show v", "show t ", "show  t", "show t u", "show t\n", " show t", "SHOW t", "show T", "show t; show u",
                     "show\nt", "showt"]:
            self.refuses(console, line)


class Statements(ConsoleTest):
    def test_do(self):
        console = small()
        self.say(console, ("do " + ADD, "0; 1"), ("do " + ADD, "0"), ("do " + ADD + "; tell x.a; tell x.b", "0: 5 0"),
                 ("do " + ADD, "none"), ("show t", "0: 7, 0; 1: 6, 0"),
                 ("do delete t from x t, y u; where y.k <= x.a; tell y.k; tell x.a", "0 0: 2 7; 1 0: 2 6"), ("show t", "none"),
                 ("do insert t from x u; set a to x.k; set b to -3", "0"), ("show t", "2: 2, -3"),
                 ("do delete t from x t; tell x.b", "2: -3"))

    def test_probes(self):
        console = told("table t (a)", "table p (q, r)", "row t 1", "row t 3", "row p 1 5", "row p 9 0")
        self.say(console, ("do update t from x t; some p where q <= x.a - 1 and r <= q + 4 and q = 1; set a to 7", "1"),
                 ("show t", "0: 1; 1: 7"), ("do delete t from x t; none p where q >= x.a + 3", "1"))

    def test_many_tellings(self):
        console = told("table t (a)", *[f"row t {k}" for k in range(12)])
        self.say(console, ("do delete t from x t, y t; where x.a = y.a; where x.a <= 2; tell x.a", "0 0: 0; 1 1: 1; 2 2: 2"))

    def test_plan(self):
        console = small()
        before = self.seen(console)
        self.say(console, ("plan " + ADD, "1: scan x down a"), ("plan delete t from x t", "1: scan x heap"),
                 ("plan update t from x t; where x.a <= 5; set a to x.b", "1: scan x down a marked"))
        self.assertEqual(self.seen(console), before)

    def test_plan_has_a_line_for_a_hold(self):
        console = told("table t (a, b)", *["row t 1 2"] * 5)
        text = "update t from x t, y t; where x.a <= y.a; set a to x.a + 1"
        answer = console.say("plan " + text)
        self.assertEqual(answer, "; ".join(console.store.explain(self.statement(console, text))))
        self.assertEqual(len(answer.split("; ")), 3)

    def statement(self, console, text):
        return Statement.read(console.store.schema, text.replace("; ", "\n"))

    def test_sound(self):
        console = small()
        before = self.seen(console)
        self.say(console, ("sound " + ADD, "sound"), ("sound update t from x t, y t; where x.a <= y.a; set a to x.a + 1", "disturbed"),
                 ("sound insert t from x t; set a to 1; set b to x.b", "disturbed"), ("sound delete t from x t", "sound"),
                 ("sound delete t from x t, y u; where x.a = y.k", "sound"))
        self.assertEqual(self.seen(console), before)

    def test_sound_is_about_heaps_in_the_order_of_the_references(self):
        source = random.Random(43)
        words = []
        for _ in range(150):
            statement = lively_statement(source, probes=0.2)
            console = told(*few_indexes(statement.schema).text.split("\n"))
            word = decide(Plan(self.statement(console, statement.text.replace("\n", "; "))))[0]
            self.say(console, ("sound " + statement.text.replace("\n", "; "), word))
            words.append(word)
        self.assertGreater(min(words.count("sound"), words.count("disturbed")), 20)

    def test_form(self):
        console = small()
        for word in ("do", "plan", "sound"):
            for text in ["", " ", "update", "update t", "update t from", "update t from x", "delete t from x t;", "delete t from x t; ",
                         "delete t from x t;where x.a <= 1", "delete t from x t ; where x.a <= 1", "delete t from x t;  where x.a <= 1",
                         "delete t from x t; where x.a <= 01", "delete t from x t; where x.a >= 1", "delete  t from x t",
                         "delete t from x t; where x.a <= 1 + 1", "delete t from x t; set a to", " delete t from x t", "drop t from x t",
                         "delete t from x t; tell x.a; where x.a <= 1", "delete t from x t\nwhere x.a <= 1", "delete t from x t\n",
                         "delete t from x t; where x.a <= " + "1" * 41, "; delete t from x t", ADD + ";", ADD + "; ", ADD + " "]:
                self.refuses(console, f"{word} {text}")
            self.refuses(console, word)
            self.refuses(console, word + "  " + ADD)
            self.refuses(console, word.upper() + " " + ADD)
            self.refuses(console, word + "\n" + ADD)
        for line in (ADD, "x" + ADD, "does " + ADD, "undo " + ADD):
            self.refuses(console, line)

    def test_statements_of_another_kind(self):
        console = small()
        for word in ("do", "plan", "sound"):
            for text, part in [("update v from x t; set a to 1", "table"), ("update t from x u; set a to 1", "references"),
                               ("update t from x v; set a to 1", "references"), ("delete t from x t; where x.z <= 1", "conditions"),
                               ("delete t from x t; some u where k = x.a", "probes"), ("update t from x t", "settings"),
                               ("update t from x t; set z to 1", "settings"), ("delete t from x t; set a to 1", "settings"),
                               ("delete t from x t; tell y.a", "told"), ("delete t from x t, x t", "references"),
                               ("delete t from x t" + "; where x.a <= 1" * 6, "conditions")]:
                self.refuses(console, f"{word} {text}", InvalidStatement, part=part)

    def test_duplicates(self):
        console = small()
        console.say("row u 5")
        self.refuses(console, "do update u from x u; set k to 9", Duplicate, column="k", value=9)
        self.refuses(console, "do insert u from x t; set k to x.a + 1", Duplicate, column="k", value=2)
        self.say(console, ("plan update u from x u; set k to 9", "1: scan x heap"), ("sound update u from x u; set k to 9", "sound"),
                 ("show u", "0: 2; 1: 5"))


class Undo(ConsoleTest):
    def test_what_can_be_undone(self):
        console = small()
        self.say(console, ("do " + ADD, "0; 1"), ("row t 8 8", "2"), ("do delete t from x t; where x.a <= -1", "none"),
                 ("undo", "ok"), ("undo", "ok"), ("undo", "ok"), ("show t", "0: 1, 0; 1: 4, 0"), ("row t 8 8", "2"), ("undo", "ok"),
                 ("undo", "ok"), ("undo", "ok"), ("undo", "ok"), ("show t", "none"))
        self.refuses(console, "undo", Empty)
        self.say(console, ("row t 1 1", "0"), ("undo", "ok"))
        self.refuses(console, "undo", Empty)

    def test_what_counts_nothing(self):
        console = told("table t (a, b) index a", "row t 1 0")
        self.say(console, ("show t", "0: 1, 0"), ("plan " + ADD, "1: scan x down a"), ("sound " + ADD, "sound"), ("undo", "ok"))
        self.refuses(console, "undo", Empty)

    def test_what_is_no_undo(self):
        console = small()
        for line in ("undo ", " undo", "Undo", "undo undo", "undo 1", "undo\n", "\nundo", "undone", ""):
            self.refuses(console, line)


class Lines(ConsoleTest):
    def test_any_value(self):
        console = small()
        for line in ODD + [b"undo", ["undo"], ("undo",), {"undo": 1}, deep(60), [[]], "x" * 4000, "\n" * 4000, " " * 4000,
                           "undo" * 1000, "do " * 1300, "; " * 2000, "do " + "; " * 1999, "row t" + " 1" * 1990, "table " * 600, "row t " + "1" * 3990]:
            self.refuses(console, line)

    def test_by_name(self):
        self.assertEqual(Console().say(line="table t (a)"), "ok")

    def test_consoles_share_nothing(self):
        one, other = small(), small()
        before = self.seen(other)
        self.say(one, ("do " + ADD, "0; 1"), ("undo", "ok"), ("undo", "ok"), ("table v (a)", "ok"))
        self.assertEqual(self.seen(other), before)

    def test_two_hundred_lines(self):
        console = told("table t (a, b) index a", "table u (k) index k", "table p (q)")
        begun = time.time()
        for k in range(100):
            console.say(f"row {'tup'[k % 3]} {k % 7} {k % 5}" if k % 3 == 0 else f"row {'tup'[k % 3]} {k % 11}")
        for k in range(32):
            console.say(f"do update t from x t; where x.a <= {k}; set a to x.a + 1; tell x.a")
            console.say(f"do insert u from x t; where x.a = {k % 9}; set k to x.b")
            console.say("undo" if k % 3 == 0 else "show t")
        self.assertLess(time.time() - begun, 5)

    def test_against_a_store(self):
        source = random.Random(44)
        for _ in range(60):
            statement = lively_statement(source, probes=0.3, keyed=0.15)
            schema = few_indexes(statement.schema)
            console, store = told(*schema.text.split("\n")), Store(schema)
            known = Statement.read(schema, statement.text)
            text = statement.text.replace("\n", "; ")
            database = lively_database(source, schema, most=4, least=1)
            for name, _, rows in database.data:
                for _, values in rows:
                    line = " ".join(str(word) for word in ("row", name, *values))
                    self.say(console, (line, str(store.put(name, *values))))
            for _ in range(2):
                try:
                    tellings = store.execute(known)
                except Duplicate as error:
                    self.refuses(console, "do " + text, Duplicate, column=error.column, value=error.value)
                    continue
                parts = [" ".join(map(str, numbers)) + (": " + " ".join(map(str, values)) if values else "")
                         for numbers, values in tellings]
                self.say(console, ("do " + text, "; ".join(parts) or "none"))
                self.say(console, ("plan " + text, "; ".join(store.explain(known))))
                for name, _, _, _ in schema.tables:
                    lines = Database(schema, store.database.data).text.split("\n")
                    first = lines.index(next(line for line in lines if line.startswith(name + " next ")))
                    rows = []
                    for line in lines[first + 1:]:
                        if " next " in line:
                            break
                        rows.append(line)
                    self.say(console, ("show " + name, "; ".join(rows) or "none"))
            self.assertEqual(console.store.database, store.database)


if __name__ == "__main__":
    unittest.main()
