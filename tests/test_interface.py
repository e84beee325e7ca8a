"""The interface: which names stand in which file, with which arguments."""

import importlib
import inspect
import unittest

FUNCTIONS = {
    "meanings": ["matches(statement, database)", "meaning(statement, database)"],
    "scans": ["is_ahead(path, one, other)"],
    "plans": ["plans_of(statement, *, hands='one')"],
    "verdicts": ["verdict(run)"],
    "weavings": ["weavings(plan, database, *, hands=2, limit=16)", "find_weaving(plan, database, *, hands=2, limit=24)"],
    "differences": ["solve(atoms)", "solution_holds(clauses, thing)", "ring_holds(atoms, thing)"],
    "clauses": ["settle(clauses)", "tree_holds(clauses, thing)"],
    "suspects": ["suspects_of(plan)"],
    "deciding": ["decide(plan)"],
    "soundchecks": ["sound_holds(plan, thing)", "disturbed_holds(plan, thing)"],
    "keylooks": ["run_by_rows(plan, database)", "key_clauses(plan)", "key_look(plan)", "refuses_holds(plan, thing)",
                 "never_holds(plan, thing)"],
    "chains": ["links(plan, database, number)", "raised_in_all(plan, database)"],
    "costs": ["cost(plan, sizes, shares)"],
    "choosing": ["choose(statement, sizes, shares, *, hands='one')"],
    "choicechecks": ["choice_holds(statement, sizes, shares, hands, thing)"],
    "findings": ["finding_holds(thing)"],
}
CLASSES = {
    ("schemas", "Schema"): ["read", "__getitem__", "__contains__", "__len__", "__eq__", "tables", "text"],
    ("databases", "Database"): ["read", "__getitem__", "__contains__", "__len__", "__eq__", "row", "with_row", "alike",
                                "schema", "data", "text"],
    ("statements", "Statement"): ["read", "reads", "__eq__", "kind", "table", "references", "conditions", "probes",
                                  "settings", "told", "parts", "text"],
    ("scans", "LiveTable"): ["put", "change", "drop", "rows", "__len__", "__contains__", "next_row", "scan"],
    ("plans", "Plan"): ["turned", "__eq__", "statement", "data", "order", "paths", "hold", "marks", "keep", "hands",
                        "lines"],
    ("stores", "Store"): ["schema", "database", "hands", "put", "execute", "explain", "__len__", "undo", "together"],
    ("consoles", "Console"): ["say", "store"],
    ("ratios", "Ratio"): ["top", "bottom", "__add__", "__sub__", "__mul__", "is_less", "__eq__", "__bool__", "__str__"],
    ("lives", "LiveRun"): ["step", "go", "play", "__len__", "plan", "data", "events", "raised", "ended", "refused"],
}


class Interface(unittest.TestCase):
    def test_functions(self):
        for name, told in FUNCTIONS.items():
            module = importlib.import_module("ownwake." + name)
            for some in told:
                function = getattr(module, some.partition("(")[0])
                self.assertEqual(function.__name__ + str(inspect.signature(function)), some)
                self.assertEqual(function.__module__, module.__name__)

    def test_methods(self):
        told = {("stores", "Store"): ["__init__(self, schema, *, hands='one')", "put(self, name, *values)", "undo(self)",
                                      "execute(self, statement)", "explain(self, statement)", "together(self, work, *arguments)"],
                ("consoles", "Console"): ["__init__(self)", "say(self, line)"],
                ("ratios", "Ratio"): ["__init__(self, top, bottom=1)", "is_less(self, other)"]}
        for (name, word), methods in told.items():
            found = getattr(importlib.import_module("ownwake." + name), word)
            for some in methods:
                method = vars(found)[some.partition("(")[0]]
                self.assertEqual(method.__name__ + str(inspect.signature(method)), some)

    def test_generators(self):
        for name, word in [("meanings", "matches"), ("plans", "plans_of"), ("weavings", "weavings")]:
            self.assertTrue(inspect.isgeneratorfunction(getattr(importlib.import_module("ownwake." + name), word)))

    def test_classes(self):
        for (name, word), members in CLASSES.items():
            found = getattr(importlib.import_module("ownwake." + name), word)
            self.assertEqual(found.__module__, "ownwake." + name)
            for member in members:
                self.assertIn(member, vars(found))


if __name__ == "__main__":
    unittest.main()
