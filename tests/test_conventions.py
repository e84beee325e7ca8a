"""Point 2: what holds for all calls."""

import copy
import random
import unittest

from ownwake.chains import links, raised_in_all
from ownwake.choicechecks import choice_holds
from ownwake.choosing import choose
from ownwake.clauses import settle, tree_holds
from ownwake.consoles import Console
from ownwake.costs import cost
from ownwake.databases import Database
from ownwake.deciding import decide
from ownwake.differences import ring_holds, solution_holds, solve
from ownwake.errors import WakeError
from ownwake.findings import finding_holds
from ownwake.keylooks import key_clauses, key_look, never_holds, refuses_holds, run_by_rows
from ownwake.lives import LiveRun
from ownwake.meanings import matches, meaning
from ownwake.plans import Plan, plans_of
from ownwake.ratios import Ratio
from ownwake.schemas import Schema
from ownwake.soundchecks import disturbed_holds, sound_holds
from ownwake.statements import Statement
from ownwake.stores import Store
from ownwake.suspects import suspects_of
from ownwake.verdicts import verdict
from ownwake.weavings import find_weaving, weavings
from samples import ODD, is_plain, random_database, random_schema, random_statement


class Conventions(unittest.TestCase):
    def setUp(self):
        source = random.Random(2)
        self.cases = []
        for _ in range(40):
            schema = random_schema(source)
            self.cases.append((random_statement(source, schema), random_database(source, schema)))

    def seen(self, thing):
        """All that an object shows, as plain values."""
        if isinstance(thing, Schema):
            return (thing.tables, thing.text, len(thing))
        if isinstance(thing, Database):
            return (self.seen(thing.schema), thing.data, thing.text, len(thing))
        if isinstance(thing, Statement):
            reads = tuple(thing.reads(alias) for alias, _ in thing.references)
            return (self.seen(thing.schema), thing.parts, thing.text, reads)
        if isinstance(thing, Plan):
            return (self.seen(thing.statement), thing.data, thing.lines)
        return (self.seen(thing.plan), thing.data, thing.events, thing.raised, thing.ended, thing.refused, len(thing))

    def results(self, statement, database):
        """What a number of calls return, as plain values."""
        plans = list(plans_of(statement)) + list(plans_of(statement, hands="many"))
        found = [tuple(matches(statement, database)), meaning(statement, database)[0],
                 self.seen(meaning(statement, database)[1]), tuple(plan.data for plan in plans)]
        for plan in plans[::7]:
            run = LiveRun(plan, database)
            found.append((run.go(30), run.play((0, 1, 0)), self.seen(run), verdict(run), self.seen(run)))
            found.append(self.seen(plan.turned("x")))
            found.append(self.decided(plan))
            found.append(self.looked_at(plan, database))
            found.append((tuple(weavings(plan, database, limit=7)), find_weaving(plan, database, limit=7)))
            found.append(self.chained(plan, database))
        found.append(self.chosen(statement))
        found.append(self.stored(statement, database))
        found.append(self.seen(Statement.read(statement.schema, statement.text)))
        found.append(self.seen(Database.read(database.schema, database.text)))
        found.append(self.seen(Schema.read(statement.schema.text)))
        return tuple(found)

    def decided(self, plan):
        """What is found of a plan without running it."""
        told = suspects_of(plan)
        clauses = [some for _, some in told]
        atoms = tuple(atom for some in clauses for clause in some for alternative in clause for atom in alternative)
        return told, decide(plan), tuple(settle(some) for some in clauses), solve(atoms)

    def looked_at(self, plan, database):
        """What comes of looking at keys row by row, or the kinds of the errors."""
        calls = [lambda: key_clauses(plan), lambda: key_look(plan), lambda: run_by_rows(plan, database)[:2]]
        return tuple(self.named(call) for call in calls)

    def chained(self, plan, database):
        """What is told of chains, or the kinds of the errors."""
        calls = [lambda: raised_in_all(plan, database), *[lambda number=number: links(plan, database, number)
                                                          for number in (0, 1)]]
        return tuple(self.named(call) for call in calls)

    def chosen(self, statement):
        """What a plan costs, and which one is chosen."""
        sizes = tuple((table, 9) for table in sorted({table for _, table in statement.references}))
        shares = (Ratio(1, 3),) * (len(statement.conditions) + len(statement.probes))
        costs = tuple(str(cost(plan, sizes, shares)) for plan in plans_of(statement))
        found = []
        for hands in ("one", "many"):
            plan, paper = choose(statement, sizes, shares, hands=hands)
            found.append((self.seen(plan), paper))
        return costs, tuple(found)

    def stored(self, statement, database):
        """What a store and a console do and answer, or the kinds of the errors."""
        store, console = Store(statement.schema), Console()
        text = statement.text.replace("\n", "; ")
        found = [self.named(lambda line=line: console.say(line)) for line in statement.schema.text.split("\n")]
        for name, _, rows in database.data:
            for _, values in rows:
                found.append(store.put(name, *values))
                found.append(self.named(lambda: console.say(" ".join(map(str, ("row", name, *values))))))
        found += [self.named(lambda: store.execute(statement)), self.named(lambda: store.explain(statement)), len(store)]
        found += [self.named(lambda word=word: console.say(f"{word} {text}")) for word in ("plan", "sound", "do")]
        found += [self.seen(store.database), store.undo(), self.seen(store.database), store.hands]
        found += [self.named(lambda line=line: console.say(line)) for line in ("show t", "undo", "show t")]
        return tuple(found)

    def named(self, call):
        try:
            return call()
        except WakeError as error:
            return type(error).__name__, tuple(vars(error).values())

    def test_results_are_plain_and_the_same_again(self):
        for statement, database in self.cases:
            before = (self.seen(statement), self.seen(database))
            self.assertTrue(is_plain(before))
            first = self.results(statement, database)
            self.assertTrue(is_plain(first))
            self.assertEqual(self.results(statement, database), first)
            self.assertEqual((self.seen(statement), self.seen(database)), before)

    def test_arguments_of_any_kind_stay(self):
        statement, database = self.cases[0]
        schema, plan = database.schema, Plan(statement)
        chained = Statement(schema, "update", "t", (("x", "t"),), settings=(("a", ("x", "a"), 1),))
        chained_plan = Plan(chained)
        calls = [
            lambda thing: Schema(thing), lambda thing: Schema.read(thing), lambda thing: schema[thing],
            lambda thing: thing in schema, lambda thing: Database(schema, thing),
            lambda thing: Database.read(schema, thing), lambda thing: database[thing],
            lambda thing: thing in database, lambda thing: database.row(thing, thing),
            lambda thing: database.row("t", thing), lambda thing: database.with_row(thing, thing),
            lambda thing: database.with_row("t", thing), lambda thing: Statement(schema, thing, thing, thing),
            lambda thing: Statement(schema, "delete", "t", thing, conditions=thing),
            lambda thing: Statement(schema, "delete", "t", (("x", "t"),), probes=thing, settings=thing),
            lambda thing: Statement(schema, "delete", "t", (("x", "t"),), told=thing),
            lambda thing: Statement.read(schema, thing), lambda thing: Plan(statement, thing, thing),
            lambda thing: Plan(statement, None, thing, hold=thing), lambda thing: Plan(statement, marks=thing),
            lambda thing: Plan(statement, keep=thing, hands=thing), lambda thing: ring_holds((), thing),
            lambda thing: solution_holds((), thing), lambda thing: tree_holds(((),), thing),
            lambda thing: sound_holds(plan, thing), lambda thing: disturbed_holds(plan, thing),
            lambda thing: disturbed_holds(plan, (database.data, thing)), lambda thing: refuses_holds(chained_plan, thing),
            lambda thing: never_holds(chained_plan, thing), lambda thing: links(chained_plan, database, thing)]
        sizes, shares = (("t", 9),), ()
        calls += [
            lambda thing: choice_holds(chained, sizes, shares, "one", thing), lambda thing: finding_holds(thing),
            lambda thing: finding_holds(("sound", schema.tables, thing, thing, thing)),
            lambda thing: finding_holds(("links", thing, thing, thing, thing, thing, thing)),
            lambda thing: Store(schema).put(thing, thing), lambda thing: Store(schema).put("t", thing, thing),
            lambda thing: Console().say(thing)]
        for thing in ODD + [[["t"], [], ()], {"a": [{"b": ([],)}]}, ([[("t", 0)]],), "x" * 4000, "\n" * 4000]:
            before = copy.deepcopy(thing)
            for call in calls:
                outcomes = [self.outcome(call, thing) for _ in range(2)]
                self.assertEqual(outcomes[0], outcomes[1])
                self.assertEqual(thing, before)

    def outcome(self, call, thing):
        """What a call returns or raises, so that two of them can be compared."""
        try:
            found = call(thing)
        except WakeError as error:
            return type(error), vars(error)
        return found

    def test_parts_are_the_caller_s_tuples(self):
        tables = (("t", ("a",), (), ()),)
        data = (("t", 1, ((0, (1,)),)),)
        schema = Schema(*tables)
        database = Database(schema, data)
        database.with_row("t", 5)
        self.assertEqual((tables, data), ((("t", ("a",), (), ()),), (("t", 1, ((0, (1,)),)),)))

    def test_integers_of_many_digits(self):
        big = 10 ** 39
        schema = Schema(("t", ("a",), ("a",), ()))
        database = Database(schema, (("t", big, ((0, (-big,)), (big - 1, (big,)))),))
        statement = Statement(schema, "update", "t", (("x", "t"),), settings=(("a", ("x", "a"), big),))
        self.assertEqual(meaning(statement, database)[1].data, (("t", big, ((0, (0,)), (big - 1, (2 * big,)))),))
        self.assertEqual(Statement.read(schema, statement.text), statement)
        self.assertEqual(Database.read(schema, database.text), database)


if __name__ == "__main__":
    unittest.main()
