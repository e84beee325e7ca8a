"""Point 8: statements and their parts."""

import unittest

from ownwake.errors import InvalidStatement
from ownwake.schemas import Schema
from ownwake.statements import Statement
from samples import ODD, is_plain

SCHEMA = Schema(
    ("t", ("b", "a"), ("a",), ("b",)), ("u", ("c", "d"), (), ()), ("p", ("q", "r"), (), ()), ("s", ("q",), (), ()),
    ("w", ("q",), (), ()), ("key", ("q",), (), ("q",)))
X, Y, Z = ("x", "a"), ("y", "c"), ("y", "d")
PROBE = ("some", "p", (("q", "<=", "r", 1), ("r", "=", None, 2)), ("q", ">=", X, -1))
OTHER = ("none", "s", (), ("q", "=", Y, 0))


def update(table="t", references=(("x", "t"), ("y", "u")), settings=(("a", X, 1),), **parts):
    return Statement(SCHEMA, "update", table, references, settings=settings, **parts)


def insert(table="t", references=(("x", "t"), ("y", "u")), settings=(("b", X, 1), ("a", Y, 0)), **parts):
    return Statement(SCHEMA, "insert", table, references, settings=settings, **parts)


def delete(table="t", references=(("x", "t"), ("y", "u")), **parts):
    return Statement(SCHEMA, "delete", table, references, **parts)


class Statements(unittest.TestCase):
    def wrong(self, part, make, *values, **parts):
        with self.assertRaises(InvalidStatement, msg=(values, parts)) as caught:
            make(*values, **parts)
        self.assertEqual(caught.exception.part, part, (values, parts))

    def test_all_parts(self):
        conditions = ((X, "<=", Y, 3), (Z, "!=", None, -10 ** 9), (X, "=", ("x", "b"), 0))
        settings = (("a", X, 1), ("b", None, -2))
        told = (Y, X, Y)
        made = Statement(SCHEMA, "update", "t", (("x", "t"), ("y", "u")), conditions=conditions,
                         probes=(PROBE, OTHER), settings=settings, told=told)
        parts = ("update", "t", (("x", "t"), ("y", "u")), conditions, (PROBE, OTHER), settings, told)
        self.assertEqual(made.parts, parts)
        self.assertEqual((made.kind, made.table, made.references, made.conditions, made.probes, made.settings,
                          made.told), parts)
        self.assertEqual(made.schema, SCHEMA)
        self.assertTrue(is_plain(made.parts))
        by_name = Statement(schema=SCHEMA, kind="update", table="t", references=parts[2], conditions=conditions,
                            probes=(PROBE, OTHER), settings=settings, told=told)
        self.assertEqual(by_name, made)

    def test_parts_left_out(self):
        made = Statement(SCHEMA, "delete", "t", (("x", "t"),))
        self.assertEqual(made.parts, ("delete", "t", (("x", "t"),), (), (), (), ()))
        self.wrong("settings", Statement, SCHEMA, "update", "t", (("x", "t"),))
        self.wrong("settings", Statement, SCHEMA, "insert", "t", (("x", "t"),))

    def test_kinds(self):
        for kind in ODD + ["Update", "updates", "merge", ("update",), ["update"], "select"]:
            self.wrong("kind", Statement, SCHEMA, kind, "t", (("x", "t"),), settings=(("a", None, 1),))
            self.wrong("kind", Statement, SCHEMA, kind, None, None)

    def test_tables(self):
        for table in ODD + ["z", "T", ("t",), ["t"]]:
            if table != "t":
                self.wrong("table", Statement, SCHEMA, "update", table, (("x", "t"),))
                self.wrong("table", Statement, SCHEMA, "insert", table, None, conditions=0)

    def test_references(self):
        for references in ODD + [
                (("x", "t"), ("x", "u")), (("x", "t"), ("y", "u"), ("z", "u")), (["x", "t"],), [("x", "t")],
                (("x", "t", 0),), (("x",),), (("", "t"),), (("X", "t"),), (("abcdefghi", "t"),), (("x1", "t"),),
                ((None, "t"),), ((0, "t"),), ((["x"], "t"),), (("x", "z"),), (("x", None),), (("x", ["t"]),),
                (("x", "t"), ("y", "z")), (("x", "t"), None), (("x", "t"), ("x", "t")), ("x", "t"), "xt",
                (("x", "t"), ("y", {}))]:
            for kind in ("update", "delete", "insert"):
                self.wrong("references", Statement, SCHEMA, kind, "t", references)
        for references in [(("x", "u"),), (("x", "u"), ("y", "t"))]:
            self.wrong("references", update, references=references)
            self.wrong("references", delete, references=references)
        self.assertEqual(delete(references=(("x", "t"), ("y", "t"))).references, (("x", "t"), ("y", "t")))
        self.assertEqual(delete(references=(("t", "t"), ("u", "t"))).references, (("t", "t"), ("u", "t")))
        self.assertEqual(delete(references=(("abcdefgh", "t"),)).references, (("abcdefgh", "t"),))
        for references in [(("x", "u"), ("y", "t")), (("x", "u"), ("y", "u")), (("x", "key"),)]:
            made = insert(references=references, settings=(("b", None, 1), ("a", None, 2)))
            self.assertEqual(made.references, references)

    def test_conditions(self):
        right = (X, "<=", None, 0)
        for some in ODD + [
                (X, "<=", None), (X, "<=", None, 0, 0), [X, "<=", None, 0], (X, ">=", None, 0), (X, "<", None, 0),
                (X, "==", None, 0), (X, None, None, 0), (X, ["<="], None, 0), (X, "<=", None, True),
                (X, "<=", None, False), (X, "<=", None, None), (X, "<=", None, "0"), (X, "<=", None, (0,)),
                (X, "<=", 0, 0), (X, "<=", "a", 0), (X, "<=", ("x",), 0), (X, "<=", ("x", "c"), 0),
                (X, "<=", ("z", "a"), 0), (X, "<=", ("t", "a"), 0), (X, "<=", ["x", "a"], 0), (X, "<=", False, 0),
                (X, "<=", ("x", "a", 0), 0), (None, "<=", X, 0), (0, "<=", None, 0), ("a", "<=", None, 0),
                (("y", "a"), "<=", None, 0), (["x", "a"], "<=", None, 0), (("x", None), "<=", None, 0),
                ((None, "a"), "<=", None, 0), ((["x"], "a"), "<=", None, 0), (("x", "A"), "<=", None, 0), ({}, "=", {}, 0)]:
            self.wrong("conditions", update, conditions=(some,))
            self.wrong("conditions", insert, conditions=(right, some, right))
        for conditions in ODD + [right, [right], (right,) * 6, {right: 0}]:
            if conditions != ():
                self.wrong("conditions", delete, conditions=conditions, probes=None)
        self.assertEqual(delete(conditions=(right,) * 5).conditions, (right,) * 5)
        for sign in ("<=", "=", "!="):
            for y in (None, X, Y):
                made = delete(conditions=((X, sign, y, -7),))
                self.assertEqual(made.conditions, ((X, sign, y, -7),))

    def test_probes(self):
        link = ("q", "<=", X, 0)
        for probe in ODD + [
                ("any", "p", (), link), (None, "p", (), link), (["some"], "p", (), link), (True, "p", (), link),
                ("some", "p", ()), ("some", "p", (), link, ()), ["some", "p", (), link],
                ("some", "z", (), link), ("some", None, (), link), ("some", ["p"], (), link),
                ("some", "t", (), ("a", "<=", X, 0)), ("some", "u", (), ("c", "<=", X, 0)), ("some", "key", (), link)]:
            self.wrong("probes", update, probes=(probe,))
            self.wrong("probes", delete, probes=(OTHER, probe))
        for own in ODD + [
                [("q", "=", None, 1)], ("q", "=", None, 1), (("q", "=", None, 1),) * 3, (("q", "=", None),),
                (("q", "=", None, 1, 1),), (["q", "=", None, 1],), (("c", "=", None, 1),), ((None, "=", None, 1),),
                (("q", "!=", None, 1),), (("q", ">=", None, 1),), (("q", None, None, 1),), (("q", "=", "c", 1),),
                (("q", "=", X, 1),), (("q", "=", 0, 1),), (("q", "=", ["r"], 1),), (("q", "=", None, True),),
                (("q", "=", None, None),), (("q", "=", None, "1"),), ((["q"], "=", None, 1),),
                (("q", "=", None, 1), ("q", "=", None, False)), ((X, "=", None, 1),)]:
            if own != ():
                self.wrong("probes", update, probes=(("some", "p", own, link),))
        for some in ODD + [
                ["q", "<=", X, 0], ("q", "<=", X), ("q", "<=", X, 0, 0), ("c", "<=", X, 0), (None, "<=", X, 0),
                (X, "<=", X, 0), ("q", "!=", X, 0), ("q", "<", X, 0), ("q", None, X, 0), ("q", "<=", None, 0),
                ("q", "<=", "a", 0), ("q", "<=", ("z", "a"), 0), ("q", "<=", ("x", "c"), 0), ("q", "<=", ("p", "q"), 0),
                ("q", "<=", ["x", "a"], 0), ("q", "<=", X, True), ("q", "<=", X, None), ("q", "<=", X, "0"),
                (["q"], "<=", X, 0)]:
            self.wrong("probes", update, probes=(("none", "p", (), some),))
        probe = ("none", "p", (), link)
        for probes in ODD + [
                probe, [probe], (probe, probe), (probe, ("some", "p", (), ("r", "=", X, 0))),
                (probe, ("some", "s", (), link), ("some", "w", (), link))]:
            if probes != ():
                self.wrong("probes", insert, probes=probes, settings=None)
        # The written table of an insert may be no reference's, and is not probed either.
        self.wrong("probes", Statement, SCHEMA, "insert", "s", (("x", "t"),), probes=(("some", "s", (), link),),
                   settings=(("q", None, 0),))
        for word in ("some", "none"):
            for sign in ("<=", "=", ">="):
                for own_sign in ("<=", "="):
                    for other in (None, "q", "r"):
                        some = (word, "p", (("r", own_sign, other, -1),) * 2, ("r", sign, Z, 5))
                        self.assertEqual(update(probes=(some, OTHER)).probes, (some, OTHER))
                        self.assertEqual(update(probes=(OTHER, some)).probes, (OTHER, some))

    def test_settings_of_an_update(self):
        for settings in ODD + [
                (), [("a", None, 1)], ("a", None, 1), (("a", None),), (("a", None, 1, 1),), (["a", None, 1],),
                (("c", None, 1),), (("q", None, 1),), ((None, None, 1),), ((["a"], None, 1),), ((X, None, 1),),
                (("a", Y, 1),), (("a", ("x", "c"), 1),), (("a", ("z", "a"), 1),), (("a", "a", 1),), (("a", 0, 1),),
                (("a", ["x", "a"], 1),), (("a", None, True),), (("a", None, None),), (("a", None, "1"),),
                (("b", None, 1), ("a", None, 1)), (("a", None, 1), ("a", None, 1)), (("a", None, 1), ("a", X, 2)),
                (("a", None, 1), ("b", None, 1), ("c", None, 1)), (("a", None, 1), None)]:
            self.wrong("settings", update, settings=settings)
            self.wrong("settings", update, settings=settings, told=None)
        for settings in [(("a", None, 0),), (("b", X, -5),), (("a", ("x", "b"), 1), ("b", X, 0))]:
            self.assertEqual(update(settings=settings).settings, settings)
        # The target alone is a source, also where the other reference has the same table.
        twice = (("x", "t"), ("y", "t"))
        self.wrong("settings", update, references=twice, settings=(("a", ("y", "a"), 0),))

    def test_settings_of_a_delete(self):
        for settings in ODD + [(("a", None, 1),)]:
            if settings != ():
                self.wrong("settings", delete, settings=settings)

    def test_settings_of_an_insert(self):
        one, two = ("b", X, 1), ("a", Y, 0)
        for settings in ODD + [
                (), (one,), (two,), (two, one), (one, one), (one, two, two), [one, two], (one, None), (one, ("a", Y)),
                (one, ["a", Y, 0]), (one, ("a", ("y", "a"), 0)), (one, ("a", ("t", "a"), 0)), (one, ("a", Y, True)),
                (one, ("a", Y, None)), (one, ("c", Y, 0)), (one, ("a", 0, 0)), (one, ("a", "c", 0))]:
            self.wrong("settings", insert, settings=settings)
        for settings in [(one, two), (("b", None, 1), ("a", None, 1)), (("b", Z, -1), ("a", X, 0))]:
            self.assertEqual(insert(settings=settings).settings, settings)

    def test_told(self):
        for told in ODD + [
                [X], X, (X, None), (X, "a"), (("x",),), (("x", "a", 0),), (["x", "a"],), (("x", "c"),), (("y", "a"),),
                (("z", "a"),), (("t", "a"),), ((None, "a"),), (("x", None),), ((["x"], "a"),), ((X,),), "a"]:
            if told != ():
                self.wrong("told", delete, told=told)
        self.assertEqual(delete(told=(X, X, Y, Z, X)).told, (X, X, Y, Z, X))

    def test_the_first_wrong_part(self):
        names = ["kind", "table", "references", "conditions", "probes", "settings", "told"]
        right = ["update", "t", (("x", "t"), ("y", "u")), ((X, "=", Y, 0),), (PROBE,), (("a", X, 1),), (X,)]
        for first in range(len(names)):
            for last in range(first, len(names)):
                values = [0 if at in (first, last) else part for at, part in enumerate(right)]
                self.wrong(names[first], Statement, SCHEMA, *values[:3], **dict(zip(names[3:], values[3:])))

    def test_reads(self):
        made = update(conditions=((X, "<=", Y, 3), (X, "=", None, 1)), probes=(("none", "s", (), ("q", "=", Z, 0)),),
                      settings=(("a", ("x", "b"), 1),))
        self.assertEqual(made.reads("x"), ("a", "b"))
        self.assertEqual(made.reads(alias="y"), ("c", "d"))
        bare = delete()
        self.assertEqual((bare.reads("x"), bare.reads("y")), ((), ()))
        self.assertEqual(delete(told=(Z, Z, Y)).reads("y"), ("c", "d"))
        self.assertEqual(delete(conditions=((Y, "!=", Z, 3),)).reads("y"), ("c", "d"))
        self.assertEqual(delete(conditions=((X, "!=", Z, 3),)).reads("y"), ("d",))
        self.assertEqual(update(settings=(("b", None, 1),)).reads("x"), ())
        self.assertEqual(update(settings=(("b", X, 1),)).reads("x"), ("a",))
        self.assertEqual(insert(settings=(("b", Z, 1), ("a", Y, 0))).reads("y"), ("c", "d"))
        self.assertEqual(delete(probes=(("some", "p", (("r", "=", "q", 0),), ("q", "<=", X, 0)),)).reads("x"), ("a",))
        self.assertTrue(is_plain(made.reads("x")))

    def test_equality(self):
        self.assertEqual(update(), update())
        self.assertNotEqual(update(), delete())
        self.assertNotEqual(update(), update(told=(X,)))
        self.assertNotEqual(update(), update(settings=(("a", X, 2),)))
        schema = Schema(*[table for table in SCHEMA.tables if table[0] != "w"])
        other = Statement(schema, "update", "t", (("x", "t"), ("y", "u")), settings=(("a", X, 1),))
        self.assertEqual(other.parts, update().parts)
        self.assertNotEqual(other, update())
        for thing in ODD + [update().parts, SCHEMA, update().text]:
            self.assertIs(update() == thing, False)


if __name__ == "__main__":
    unittest.main()
