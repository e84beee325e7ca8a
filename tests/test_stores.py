"""Point 36: stores, beside runs of the plans that the document chooses."""

import random
import time
import unittest

from lively import lively_statement
from ownwake.databases import Database
from ownwake.deciding import decide
from ownwake.errors import Duplicate, Empty, InvalidDatabase, NoTable, WakeError
from ownwake.lives import LiveRun
from ownwake.meanings import meaning
from ownwake.ratios import Ratio
from ownwake.schemas import Schema
from ownwake.statements import Statement
from ownwake.stores import Store
from samples import ODD, is_plain
from test_choosing import in_question
from test_costs import slow_cost

SCHEMA = Schema(("p", ("q",), (), ()), ("t", ("a", "b"), ("a",), ()), ("u", ("k", "c"), ("k",), ("k",)))
ADD = Statement.read(SCHEMA, "update t from x t\nwhere x.a <= 5\nset a to x.a + 2\ntell x.a")
NEXT = Statement.read(SCHEMA, "update u from x u\nset k to x.k + 1")
SAME = Statement.read(SCHEMA, "update u from x u\nset k to 4")


def slow_chosen(statement, database, hands):
    """The plan that the document chooses for a store with this database."""
    sizes = tuple((name, len(database[name])) for name in sorted({table for _, table in statement.references}))
    signs = {"<=": Ratio(1, 3), "=": Ratio(1, 10), "!=": Ratio(9, 10)}
    shares = tuple(signs[some[1]] for some in statement.conditions) + (Ratio(1, 2),) * len(statement.probes)
    ranked = sorted(in_question(statement, hands), key=lambda plan: slow_cost(plan, sizes, shares))
    return next(plan for plan in ranked if decide(plan)[0] == "sound")


def filled(hands="one", t=((1, 0), (4, 0)), u=((1, 0), (2, 0))):
    store = Store(SCHEMA, hands=hands)
    for values in t:
        store.put("t", *values)
    for values in u:
        store.put("u", *values)
    return store


class StoreTest(unittest.TestCase):
    def seen(self, store):
        return store.database.data, len(store), store.hands, store.schema.tables

    def refuses(self, store, kind, call, *arguments, **fields):
        """Whether a call raises an error with these fields, and changes nothing."""
        before = self.seen(store)
        with self.assertRaises(kind) as caught:
            call(*arguments)
        self.assertEqual(vars(caught.exception), fields)
        self.assertEqual(self.seen(store), before)


class Rows(StoreTest):
    def test_a_new_store(self):
        for hands in ("one", "many"):
            store = Store(SCHEMA, hands=hands)
            self.assertEqual((store.schema, store.database, store.hands, len(store)), (SCHEMA, Database(SCHEMA), hands, 0))
        self.assertEqual(Store(schema=SCHEMA).hands, "one")
        self.assertIs(type(Store(SCHEMA).database), Database)

    def test_put(self):
        store = Store(SCHEMA)
        self.assertEqual([store.put("t", 1, 0), store.put("u", -5, 10 ** 39), store.put("t", 4, 0)], [0, 0, 1])
        self.assertEqual(store.database.data, (("p", 0, ()), ("t", 2, ((0, (1, 0)), (1, (4, 0)))), ("u", 1, ((0, (-5, 10 ** 39)),))))
        self.assertEqual(len(store), 3)
        # Numbers are never used again, except by what is put behind an undo.
        store.execute(Statement.read(SCHEMA, "delete t from x t"))
        self.assertEqual(store.put("t", 7, 7), 2)
        store.undo()
        self.assertEqual(store.put("t", 8, 8), 2)

    def test_wrong_rows(self):
        store = filled()
        for name in [some for some in ODD if some != "t"]:
            self.refuses(store, NoTable, store.put, name, 1, 2, name=name)
        for values in [(), (1,), (1, 2, 3), ("1", 2), (1, None), (True, 1), (1, False), ((), ()), ([], {})]:
            self.refuses(store, InvalidDatabase, store.put, "t", *values, part="t")
        self.refuses(store, NoTable, store.put, "v", 1, name="v")
        self.refuses(store, InvalidDatabase, store.put, "u", 2, None, part="u")
        self.refuses(store, Duplicate, store.put, "u", 2, 9, column="k", value=2)
        self.assertEqual(store.put("u", 3, 9), 2)

    def test_stores_share_nothing(self):
        one, other = filled(), filled()
        before = self.seen(other)
        kept = one.database
        one.put("t", 9, 9)
        one.execute(ADD)
        one.undo()
        self.assertEqual(self.seen(other), before)
        self.assertEqual(kept.data, other.database.data)


class Statements(StoreTest):
    def test_execute(self):
        for hands in ("one", "many"):
            store = filled(hands)
            self.assertEqual(store.execute(ADD), (((0,), (1,)), ((1,), (4,))))
            self.assertEqual(store.database["t"], ((0, (3, 0)), (1, (6, 0))))
            self.assertEqual(store.execute(ADD), (((0,), (3,)),))
            self.assertEqual(store.execute(statement=ADD), (((0,), (5,)),))
            self.assertEqual(store.database["t"], ((0, (7, 0)), (1, (6, 0))))
            self.assertEqual(len(store), 7)

    def test_a_statement_without_matches_counts(self):
        store = filled(t=())
        self.assertEqual(store.execute(ADD), ())
        self.assertEqual(len(store), 3)
        store.undo()
        self.assertEqual((len(store), len(store.database["u"])), (2, 2))
        store.undo()
        self.assertEqual((len(store), len(store.database["u"])), (1, 1))

    def test_duplicates(self):
        for hands in ("one", "many"):
            store = filled(hands)
            self.refuses(store, Duplicate, store.execute, SAME, column="k", value=4)
            self.assertEqual(store.execute(NEXT), (((0,), ()), ((1,), ())))
            twice = Statement.read(SCHEMA, "insert u from x t\nset k to x.b\nset c to 0")
            self.refuses(store, Duplicate, store.execute, twice, column="k", value=0)

    def test_new_rows_are_numbered_as_the_plan_raises_them(self):
        copy = "insert u from x t\nwhere x.a <= 5\nset k to x.a + 10\nset c to x.b\ntell x.a"
        store = filled(t=((3, 1), (1, 2), (4, 3), (9, 4), (2, 5)), u=())
        # The index of t is the cheapest, and downwards comes first.
        self.assertEqual(store.explain(Statement.read(SCHEMA, copy)), ("1: scan x down a",))
        self.assertEqual(store.execute(Statement.read(SCHEMA, copy)), (((0,), (3,)), ((1,), (1,)), ((2,), (4,)), ((4,), (2,))))
        self.assertEqual(store.database["u"], ((0, (14, 3)), (1, (13, 1)), (2, (12, 5)), (3, (11, 2))))

    def test_new_rows_of_two_references(self):
        text = "insert p from x t, y u\nwhere x.a <= y.k\nset q to x.a\ntell y.k"
        statement = Statement.read(SCHEMA, text)
        store = filled(t=((3, 1), (1, 2), (4, 3)), u=((2, 0), (9, 0), (5, 0), (3, 0)))
        plan = slow_chosen(statement, store.database, "one")
        run = LiveRun(plan, store.database)
        self.assertTrue(run.go(1000))
        self.assertNotEqual(run.raised, tuple(sorted(run.raised)))
        self.assertEqual(store.execute(statement), tuple(sorted(run.raised)))
        self.assertEqual(store.database.data, run.data)

    def test_the_sizes_as_they_are_now(self):
        statement = Statement.read(SCHEMA, "insert p from x t, y u\nwhere x.b != y.c\nset q to 1")
        store = filled(t=[(1, 1)] * 3, u=((2, 0),))
        self.assertEqual(store.explain(statement), ("1: scan y heap", "2: scan x heap"))
        for k in range(4):
            store.put("u", 10 + k, 0)
        self.assertEqual(store.explain(statement), ("1: scan x heap", "2: scan y heap"))
        store.undo()
        store.undo()
        # As many rows in both: the order that is less.
        self.assertEqual(store.explain(statement), ("1: scan x heap", "2: scan y heap"))
        store.undo()
        self.assertEqual(store.explain(statement), ("1: scan y heap", "2: scan x heap"))

    def test_explain_counts_nothing(self):
        store = filled()
        before = self.seen(store)
        self.assertEqual(store.explain(ADD), ("1: scan x down a",))
        self.assertEqual(store.explain(statement=ADD), ("1: scan x down a",))
        self.assertEqual(self.seen(store), before)
        self.assertEqual(filled("many").explain(ADD), ("1: scan x down a", "many hands"))

    def test_shares(self):
        # With x first the cost is t + share * t * 3, with y first it is 3 + 3 * t.
        for test, rows, first in [("where x.b != 3", 4, "x"), ("where x.b != 3", 5, "y"), ("where x.b <= 3", 200, "x"),
                                  ("where x.b = 3\nwhere x.b != 3", 200, "x"),
                                  ("where x.b != 3\nwhere x.b != 4", 6, "x"), ("where x.b != 3\nwhere x.b != 4", 8, "y")]:
            statement = Statement.read(SCHEMA, f"insert p from x t, y u\n{test}\nset q to 1")
            for hands in ("one", "many"):
                store = filled(hands, t=[(1, 1)] * rows, u=[(k, 0) for k in range(3)])
                self.assertEqual(store.explain(statement), slow_chosen(statement, store.database, hands).lines)
                self.assertEqual(store.explain(statement)[0], f"1: scan {first} heap")

    def test_the_share_of_a_probe(self):
        # Of two scans of one table the one of which less passes comes first: a half, if the probe is asked of x.
        for sign, first in [("!=", "x"), ("<=", "y"), ("=", "y")]:
            for word in ("some", "none"):
                text = f"insert u from x t, y t\nwhere y.b {sign} 3\n{word} p where q = x.b\nset k to 1\nset c to 1"
                self.assertEqual(filled().explain(Statement.read(SCHEMA, text))[0], f"1: scan {first} heap")

    def test_shares_of_bounds(self):
        # With u first a bounded scan of t costs 3 + 3 * share * t, with t first share * t + share * t * 3.
        for sign, rows, first in [("<=", 8, "x"), ("<=", 10, "y"), ("=", 29, "x"), ("=", 31, "y")]:
            statement = Statement.read(SCHEMA, f"insert p from x t, y u\nwhere x.a {sign} 3\nset q to 1")
            store = filled(t=[(1, 1)] * rows, u=[(k, 0) for k in range(3)])
            self.assertEqual(store.explain(statement)[0], f"1: scan {first} " + ("down a" if first == "x" else "heap"))

    def test_random_stores(self):
        source = random.Random(41)
        seen = {"refused": 0, "done": 0, "turned": 0, "undone": 0}
        for _ in range(90):
            kind = source.choice(("update", "insert", "insert", "delete"))
            first = lively_statement(source, kind, probes=0.3, keyed=source.choice((0, 0, 0.6)))
            for hands in ("one", "many"):
                self.compare_stores(source, first, hands, seen)
        self.assertGreater(min(seen.values()), 5, seen)

    def compare_stores(self, source, first, hands, seen):
        """Let a store do what is drawn, beside databases and runs."""
        schema = first.schema
        store, database, past = Store(schema, hands=hands), Database(schema), []
        for _ in range(source.randint(4, 9)):
            name, columns, _, _ = source.choice(schema.tables)
            values = [source.randint(-4, 4) for _ in columns]
            self.assertIs(store.database == database, True)
            try:
                grown = database.with_row(name, *values)
            except Duplicate as error:
                self.refuses(store, Duplicate, store.put, name, *values, column=error.column, value=error.value)
                continue
            past.append(database)
            self.assertEqual(store.put(name, *values), grown[name][-1][0])
            database = grown
        for _ in range(3):
            if len(database) > 30:
                break
            plan = slow_chosen(first, database, hands)
            self.assertEqual(store.explain(first), plan.lines)
            run = LiveRun(plan, database)
            self.assertTrue(run.go(3000))
            if run.refused is not None:
                self.refuses(store, Duplicate, store.execute, first, column=run.refused[0], value=run.refused[1])
                self.assertRaises(Duplicate, meaning, first, database)
                seen["refused"] += 1
                break
            tellings = store.execute(first)
            self.assertTrue(is_plain(tellings))
            self.assertEqual(tellings, tuple(sorted(run.raised)))
            self.assertEqual(store.database.data, run.data)
            told, after = meaning(first, database)
            self.assertEqual(tellings, told)
            self.assertTrue(store.database.alike(after, database))
            seen["done"] += 1
            seen["turned"] += store.database != after
            past.append(database)
            database = store.database
            self.assertEqual(len(store), len(past))
            if source.random() < 0.3:
                store.undo()
                database = past.pop()
                self.assertEqual(store.database, database)
                seen["undone"] += 1
        while past:
            store.undo()
            self.assertEqual((store.database, len(store)), (past.pop(), len(past)))
        self.refuses(store, Empty, store.undo)

    def test_some_hundred_rows(self):
        store = Store(Schema(("t", ("a", "b"), ("a",), ()), ("u", ("k",), ("k",), ("k",))))
        schema = store.schema
        for k in range(20):
            store.put("t", k, k % 7)
            store.put("u", k)
        double = Statement.read(schema, "insert t from x t\nset a to x.a + 1\nset b to x.b + 1")
        begun = time.time()
        for _ in range(5):
            store.execute(double)
        self.assertEqual(len(store.database["t"]), 640)
        self.assertLess(time.time() - begun, 3)
        for text in ("update t from x t, y t\nwhere x.a = y.b\nset b to x.b + 1", "update t from x t, y u\nset b to x.b - 1",
                     "insert u from x t, y t\nwhere x.a = y.a + 100\nset k to 1", "update t from x t, y t\nwhere x.a <= y.b\nset a to x.b",
                     "delete t from x t, y t\nwhere x.a <= y.a - 20", "insert t from x t, y u\nwhere x.b = y.k\nset a to 0\nset b to y.k"):
            statement = Statement.read(schema, text)
            begun = time.time()
            expected = meaning(statement, store.database)[0]
            self.assertEqual(store.execute(statement), expected)
            self.assertLess(time.time() - begun, 5, text)


class Undo(StoreTest):
    def test_each_deed(self):
        store = Store(SCHEMA)
        states = [store.database]
        for _ in range(6):
            store.put("t", 1, 2)
            states.append(store.database)
            store.execute(ADD)
            states.append(store.database)
            store.put("u", len(states), 0)
            states.append(store.database)
        self.assertEqual(len(store), 18)
        for _ in range(18):
            self.assertEqual(store.database, states[len(store)])
            self.assertIsNone(store.undo())
        self.assertEqual(store.database, Database(SCHEMA))
        self.refuses(store, Empty, store.undo)
        self.assertEqual(store.put("t", 1, 2), 0)

    def test_next_numbers_come_back(self):
        store = filled(t=((1, 0),), u=())
        store.execute(Statement.read(SCHEMA, "insert t from x t\nset a to 7\nset b to 0"))
        self.assertEqual(store.database.data[1][1], 2)
        store.execute(Statement.read(SCHEMA, "delete t from x t"))
        self.assertEqual(store.database.data[1], ("t", 2, ()))
        store.undo()
        store.undo()
        self.assertEqual(store.database.data[1], ("t", 1, ((0, (1, 0)),)))
        self.assertEqual(store.put("t", 3, 3), 1)

    def test_many_deeds(self):
        store = Store(SCHEMA)
        for k in range(700):
            self.assertEqual(store.put("t", k, 0), k)
        self.assertEqual(len(store), 700)
        for k in range(700):
            store.undo()
        self.assertEqual(store.database, Database(SCHEMA))
        self.refuses(store, Empty, store.undo)


class Trouble(Exception):
    pass


class Blocks(StoreTest):
    def test_a_block_that_ends_well(self):
        store = filled(t=(), u=())
        given = []

        def work(told, *arguments):
            given.append((told is store, arguments))
            told.put("t", 1, 0)
            store.put("t", 4, 0)
            return told.execute(ADD)

        self.assertEqual(store.together(work, 5, "x", None), (((0,), (1,)), ((1,), (4,))))
        self.assertEqual(given, [(True, (5, "x", None))])
        self.assertEqual(len(store), 3)
        self.assertEqual(store.database["t"], ((0, (3, 0)), (1, (6, 0))))
        # Behind the block each deed is undone by itself.
        store.undo()
        self.assertEqual(store.database["t"], ((0, (1, 0)), (1, (4, 0))))
        store.undo()
        self.assertEqual(store.database["t"], ((0, (1, 0)),))
        store.undo()
        self.refuses(store, Empty, store.undo)

    def test_what_a_block_returns(self):
        store, thing = filled(), [1]
        self.assertIs(store.together(lambda some: thing), thing)
        self.assertIsNone(store.together(lambda some: None))
        self.assertIs(store.together(lambda some: some), store)
        self.assertEqual(store.together(lambda some, *more: more, 1, 2, 3), (1, 2, 3))
        self.assertEqual(store.together(work=lambda some: 7), 7)
        self.assertEqual(len(store), 4)

    def test_an_error_undoes_the_block(self):
        for raised in (Trouble("x"), KeyError(1), Duplicate("k", 3), Empty(), KeyboardInterrupt(), SystemExit(2), StopIteration()):
            store = filled()
            before, kept = self.seen(store), store.database

            def work(told):
                told.put("t", 9, 9)
                told.execute(ADD)
                told.undo()
                told.put("u", 7, 7)
                raise raised

            with self.assertRaises(type(raised)) as caught:
                store.together(work)
            self.assertIs(caught.exception, raised)
            self.assertEqual(self.seen(store), before)
            self.assertEqual(store.database, kept)
            # All that was before the block can still be undone, and new rows get the next numbers.
            self.assertEqual(store.put("t", 1, 1), 2)
            for _ in range(5):
                store.undo()
            self.refuses(store, Empty, store.undo)

    def test_errors_of_the_store_go_on(self):
        store = filled()
        for kind, call in [(Duplicate, lambda some: some.execute(SAME)), (NoTable, lambda some: some.put("v", 1)),
                           (InvalidDatabase, lambda some: some.put("t", 1)), (Empty, lambda some: some.undo())]:
            before = self.seen(store)

            def work(some):
                some.put("t", 9, 9)
                some.undo()
                if kind is not Empty:
                    some.put("t", 9, 9)
                call(some)

            self.assertRaises(kind, store.together, work)
            self.assertEqual(self.seen(store), before)

    def test_an_error_that_work_catches(self):
        store = filled(t=(), u=())

        def work(some):
            some.put("u", 1, 1)
            try:
                some.put("u", 1, 2)
            except Duplicate:
                some.put("u", 2, 2)

        store.together(work)
        self.assertEqual((len(store), len(store.database["u"])), (2, 2))

    def test_undo_in_a_block(self):
        store = filled()

        def work(some):
            self.refuses(some, Empty, some.undo)
            some.put("t", 9, 9)
            some.execute(ADD)
            some.undo()
            some.undo()
            self.refuses(some, Empty, some.undo)
            some.put("t", 8, 8)

        store.together(work)
        self.assertEqual((len(store), store.database["t"][-1]), (5, (2, (8, 8))))
        for _ in range(5):
            store.undo()
        self.assertEqual(store.database, Database(SCHEMA))

    def test_len_in_a_block(self):
        store = filled()
        counts = []

        def work(some):
            counts.append(len(some))
            some.put("t", 1, 1)
            counts.append(len(some))

        store.together(work)
        self.assertEqual(counts, [4, 5])

    def test_blocks_in_blocks(self):
        store = filled(t=(), u=())

        def inner(some, fails):
            self.refuses(some, Empty, some.undo)
            some.put("t", 2, 2)
            some.put("t", 3, 3)
            some.undo()
            if fails:
                raise Trouble()

        def outer(some, first, second, fails):
            some.put("t", 1, 1)
            for part in (first, second):
                try:
                    some.together(inner, part)
                except Trouble:
                    pass
            if fails:
                raise Trouble()
            return len(some)

        for first in (True, False):
            for second in (True, False):
                count = 1 + (not first) + (not second)
                self.assertEqual(store.together(outer, first, second, False), count)
                self.assertEqual(store.database.data[1][1], count)
                # Behind the inner block the outer one can undo as far as its own beginning.
                for _ in range(count):
                    store.undo()
                self.refuses(store, Empty, store.undo)
                self.assertRaises(Trouble, store.together, outer, first, second, True)
                self.assertEqual(self.seen(store), (Database(SCHEMA).data, 0, "one", SCHEMA.tables))

    def test_the_outer_block_behind_the_inner_one(self):
        store = filled()

        def work(some):
            some.put("t", 1, 1)
            some.together(lambda other: other.put("t", 2, 2))
            some.undo()
            some.undo()
            self.refuses(some, Empty, some.undo)
            try:
                some.together(self.failing)
            except Trouble:
                some.put("t", 5, 5)
            some.undo()
            self.refuses(some, Empty, some.undo)

        before = self.seen(store)
        store.together(work)
        self.assertEqual(self.seen(store), before)

    def failing(self, some):
        some.put("t", 7, 7)
        raise Trouble()

    def test_blocks_of_two_stores(self):
        one, other = filled(), filled()

        def work(some):
            some.put("t", 1, 1)
            other.put("t", 1, 1)
            raise Trouble()

        self.assertRaises(Trouble, one.together, work)
        self.assertEqual((len(one), len(other)), (4, 5))

    def test_deep_blocks(self):
        store = filled(t=(), u=())

        def work(some, depth):
            some.put("t", depth, 0)
            if depth == 0:
                raise Trouble()
            try:
                some.together(work, depth - 1)
            except Trouble:
                if depth != 20:
                    raise
            return depth

        self.assertEqual(store.together(work, 40), 40)
        self.assertEqual(store.database["t"], tuple((number, (40 - number, 0)) for number in range(21)))
        self.assertEqual(len(store), 21)

    def test_random_blocks(self):
        source = random.Random(42)
        for _ in range(150):
            store = Store(SCHEMA)
            self.drawn_block(source, store, [], 0)

    def drawn_block(self, source, store, past, floor):
        """Do what is drawn in a block, beside a list of databases; return how many deeds it leaves."""
        deeds = 0
        for _ in range(source.randint(0, 6)):
            word = source.choice(("put", "put", "execute", "undo", "block", "block"))
            before = store.database
            if word == "undo":
                if deeds == 0:
                    self.refuses(store, Empty, store.undo)
                else:
                    store.undo()
                    deeds -= 1
                    self.assertEqual(store.database, past.pop())
            elif word == "block" and len(past) < 30 and floor < 5:
                fails, count = source.random() < 0.4, len(past)

                def work(some):
                    left = self.drawn_block(source, some, past, floor + 1)
                    if fails:
                        raise Trouble()
                    return left

                try:
                    deeds += store.together(work)
                except Trouble:
                    del past[count:]
                    self.assertEqual(store.database, before)
            elif word != "block":
                past.append(before)
                deeds += 1
                if word == "put":
                    store.put("t", source.randint(0, 9), 0)
                else:
                    store.execute(ADD)
            self.assertEqual(len(store), len(past))
        return deeds


class Errors(StoreTest):
    def test_they_are_of_this_package(self):
        store = filled()
        for call in [lambda: store.put("v"), lambda: store.put("t"), lambda: store.execute(SAME), lambda: Store(SCHEMA).undo()]:
            self.assertRaises(WakeError, call)


if __name__ == "__main__":
    unittest.main()
