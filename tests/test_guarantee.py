"""Point 3 over the whole program: what is promised of every statement, for statements that are drawn."""

import random
import unittest

from lively import lively_database, lively_statement
from ownwake.chains import raised_in_all
from ownwake.choicechecks import choice_holds
from ownwake.choosing import choose
from ownwake.databases import Database
from ownwake.deciding import decide
from ownwake.errors import Duplicate
from ownwake.findings import finding_holds
from ownwake.keylooks import key_look
from ownwake.lives import LiveRun
from ownwake.meanings import meaning
from ownwake.plans import Plan, plans_of
from ownwake.soundchecks import disturbed_holds, sound_holds
from ownwake.stores import Store
from ownwake.verdicts import verdict
from ownwake.weavings import find_weaving
from samples import slow_matches
from test_choosing import drawn
from test_deciding import DISTURBED


def planned(statement, data):
    order, paths, hold, marks, keep, hands = data
    return Plan(statement, order, paths, hold=hold, marks=marks, keep=keep, hands=hands)


class Guarantee(unittest.TestCase):
    def is_as_meant(self, run, database):
        """Whether a run that has ended tells and leaves what its statement means; return whether it was refused."""
        statement = run.plan.statement
        self.assertTrue(run.ended)
        self.assertEqual(verdict(run), ("plain",))
        self.assertEqual(sorted(numbers for numbers, _ in run.raised), slow_matches(statement, database))
        try:
            tellings, after = meaning(statement, database)
        except Duplicate as error:
            self.assertEqual(run.refused, (error.column, error.value))
            return True
        self.assertEqual(tuple(sorted(run.raised)), tellings)
        self.assertIsNone(run.refused)
        self.assertTrue(Database(statement.schema, run.data).alike(after, database))
        return False

    def woven(self, source, plan, database):
        """A run in which hands step in an order that is drawn."""
        run = LiveRun(plan, database)
        hands = source.randint(1, 5)
        while not run.ended:
            run.play((source.randrange(hands),))
        return run

    def drawn_statements(self, seed, count):
        source = random.Random(seed)
        for _ in range(count):
            statement = lively_statement(source, probes=0.3, keyed=source.choice((0, 0, 0.3)), conditions=source.choice((0, 1, 2, 3)))
            yield source, statement, *drawn(source, statement)

    def test_the_chosen_plan_means_what_the_statement_means(self):
        refused = []
        for source, statement, sizes, shares in self.drawn_statements(47, 120):
            for hands in ("one", "many"):
                plan, _ = choose(statement, sizes, shares, hands=hands)
                for _ in range(4):
                    database = lively_database(source, statement.schema, most=4)
                    if plan.hands == "one":
                        run = LiveRun(plan, database)
                        self.assertTrue(run.go(2000))
                    else:
                        run = self.woven(source, plan, database)
                    refused.append((plan.hands, self.is_as_meant(run, database)))
        self.assertGreater(refused.count(("many", False)), 100)
        self.assertEqual(len(set(refused)), 4)

    def test_each_cheaper_plan_is_disturbed_on_the_database_of_the_paper(self):
        count = 0
        for source, statement, sizes, shares in self.drawn_statements(48, 100):
            for hands in ("one", "many"):
                _, paper = choose(statement, sizes, shares, hands=hands)
                self.assertIs(choice_holds(statement, sizes, shares, hands, paper), True)
                for data, shown, weaving in paper[2]:
                    count += 1
                    plan, database = planned(statement, data), Database(statement.schema, shown)
                    self.assertLessEqual(len(database[statement.table]), 4)
                    run = LiveRun(plan, database)
                    self.assertEqual(run.play(weaving), len(weaving))
                    self.assertIn(verdict(run)[0], DISTURBED)
        self.assertGreater(count, 300)

    def test_a_plan_is_sound_or_disturbed(self):
        words = []
        for source, statement, _, _ in self.drawn_statements(49, 80):
            for hands in ("one", "many"):
                plan = source.choice(list(plans_of(statement, hands=hands)))
                word, *told = decide(plan)
                words.append(word)
                self.assertIs(sound_holds(plan, told[0]), word == "sound")
                self.assertIs(disturbed_holds(plan, tuple(told)), word == "disturbed")
                told = tuple(told) if word == "disturbed" else (told[0],)
                self.assertIs(finding_holds((word, statement.schema.tables, statement.parts, plan.data, *told)), True)
                if word == "sound":
                    self.never_disturbed(source, plan)
        self.assertEqual(set(words), {"sound", "disturbed"})

    def never_disturbed(self, source, plan):
        for _ in range(5):
            database = lively_database(source, plan.statement.schema, most=3, spread=1, least=1)
            self.assertIsNone(find_weaving(plan, database, hands=3, limit=16))
            if plan.hands == "one":
                run = LiveRun(plan, database)
                self.assertTrue(run.go(1000))
                self.is_as_meant(run, database)

    def test_refused_row_by_row_or_never(self):
        words = []
        source = random.Random(50)
        for _ in range(120):
            statement = lively_statement(source, "update", 1, probes=0.2, keyed=0.6, conditions=source.choice((0, 1, 2)))
            plan, _ = choose(statement, (("t", 9),), drawn(source, statement)[1])
            look, told = key_look(plan)
            words.append(look)
            self.assertIs(finding_holds((look, statement.schema.tables, statement.parts, plan.data, told)), True)
            if look == "refuses":
                self.assertEqual(len(Database(statement.schema, told)["t"]), 2)
        self.assertEqual(set(words), {"refuses", "never"})

    def test_how_often_a_statement_meets_its_own_rows(self):
        source = random.Random(51)
        counts = []
        for _ in range(150):
            statement = lively_statement(source, source.choice(("update", "insert")), 1, conditions=source.choice((1, 2)))
            database = lively_database(source, statement.schema, most=4, least=1)
            for plan in plans_of(statement):
                if plan.data[2:] == (0, (), False, "one"):
                    run = LiveRun(plan, database)
                    counts.append(raised_in_all(plan, database))
                    self.assertEqual(counts[-1], len(run.raised) if run.go(300) else "endless")
                    if decide(plan)[0] == "sound":
                        self.assertEqual(counts[-1], len(slow_matches(statement, database)))
        self.assertGreater(len(set(counts)), 6)

    def test_stores_mean_what_the_statements_mean(self):
        count = 0
        for source, statement, _, _ in self.drawn_statements(52, 60):
            for hands in ("one", "many"):
                store = Store(statement.schema, hands=hands)
                database = lively_database(source, statement.schema, most=4, least=1)
                for name, _, rows in database.data:
                    for _, values in rows:
                        store.put(name, *values)
                before = store.database
                try:
                    tellings, after = meaning(statement, before)
                except Duplicate:
                    self.assertRaises(Duplicate, store.execute, statement)
                    continue
                count += 1
                self.assertEqual(store.execute(statement), tellings)
                self.assertTrue(store.database.alike(after, before))
                store.undo()
                self.assertEqual(store.database, before)
        self.assertGreater(count, 80)


if __name__ == "__main__":
    unittest.main()
