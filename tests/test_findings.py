"""Point 38: findings of all kinds are looked at, whoever made them."""

import random
import time
import unittest

from lively import lively_database, lively_statement
from ownwake.chains import links
from ownwake.choosing import choose
from ownwake.databases import Database
from ownwake.deciding import decide
from ownwake.errors import Duplicate, WakeError
from ownwake.findings import finding_holds
from ownwake.keylooks import key_clauses, key_look, run_by_rows
from ownwake.meanings import meaning
from ownwake.plans import Plan, plans_of
from ownwake.ratios import Ratio
from ownwake.schemas import Schema
from ownwake.statements import Statement
from samples import ODD, deep
from test_choicechecks import slow_choice
from test_choosing import drawn
from test_soundchecks import slow_disturbed, slow_sound
from variants import slow_tree, strict, variants

KINDS = ("disturbed", "sound", "refuses", "never", "links", "choice")


def pairs_of(shares):
    return tuple((share.top, share.bottom) for share in shares)


def slow_plan(tables, parts, told):
    """The plan that three values tell, or None, by what the constructors accept and show."""
    try:
        schema = Schema(*tables)
        kind, table, references, conditions, probes, settings, named = parts
        statement = Statement(schema, kind, table, references, conditions=conditions, probes=probes, settings=settings, told=named)
        if told is None:
            plan = Plan(statement)
        else:
            order, paths, hold, marks, keep, hands = told
            plan = Plan(statement, order, paths, hold=hold, marks=marks, keep=keep, hands=hands)
    except (WakeError, TypeError, ValueError):
        return None
    if not strict(schema.tables, tables) or not strict(statement.parts, parts):
        return None
    return plan if told is None or strict(plan.data, told) else None


def slow_database(schema, data):
    try:
        database = Database(schema, data)
    except (WakeError, TypeError):
        return None
    return database if strict(database.data, data) else None


def slow_finding(thing):
    """Whether a finding holds, by the words of the document."""
    if type(thing) is not tuple or not thing or type(thing[0]) is not str or thing[0] not in KINDS:
        return False
    kind, *rest = thing
    if len(rest) != {"disturbed": 5, "sound": 4, "refuses": 4, "never": 4, "links": 6, "choice": 6}[kind]:
        return False
    plan = slow_plan(rest[0], rest[1], None if kind == "choice" else rest[2])
    if plan is None or kind != "choice" and rest[2] is None:
        return False
    statement = plan.statement
    if kind == "choice":
        return slow_sized_choice(statement, *rest[2:])
    if kind == "disturbed":
        return slow_disturbed(plan, (rest[3], rest[4]))
    if kind == "sound":
        return slow_sound(plan, rest[3])
    if kind == "links":
        database = slow_database(statement.schema, rest[3])
        chained = statement.kind != "delete" and plan.data[2:] == (0, (), False, "one") and len(plan.order) == 1
        if database is None or not chained or type(rest[4]) is not int:
            return False
        name = statement.references[0][1]
        return (name, rest[4]) in database and strict(links(plan, database, rest[4]), rest[5])
    if statement.kind != "update" or len(plan.order) != 1 or plan.hands != "one" or decide(plan)[0] != "sound":
        return False
    if kind == "never":
        told = key_clauses(plan)
        return type(rest[3]) is tuple and len(rest[3]) == len(told) and all(
            type(part) is tuple and len(part) == 2 and strict(part[0], name) and slow_tree(clauses, part[1])
            for part, (name, clauses) in zip(rest[3], told))
    database = slow_database(statement.schema, rest[3])
    if database is None or len(database[statement.table]) != 2:
        return False
    try:
        meaning(statement, database)
    except Duplicate:
        return False
    return run_by_rows(plan, database)[0] == "refused"


def slow_sized_choice(statement, sizes, shares, hands, paper):
    names = sorted({table for _, table in statement.references})
    count = len(statement.conditions) + len(statement.probes)
    if type(sizes) is not tuple or type(shares) is not tuple or hands not in ("one", "many"):
        return False
    if not all(type(part) is tuple and len(part) == 2 for part in sizes + shares):
        return False
    if [name for name, _ in sizes] != names or not all(type(size) is int and size >= 0 for _, size in sizes):
        return False
    if len(shares) != count or not all(type(top) is int and type(bottom) is int for top, bottom in shares):
        return False
    if not all(bottom > 0 and 0 <= top <= bottom for top, bottom in shares):
        return False
    ratios = tuple(Ratio(top, bottom) for top, bottom in shares)
    return pairs_of(ratios) == shares and slow_choice(statement, sizes, ratios, hands, paper)


SCHEMA = Schema(("p", ("q",), (), ()), ("t", ("a", "b"), ("a",), ("b",)), ("u", ("k",), ("k",), ("k",)))
ADD = Statement.read(SCHEMA, "update t from x t\nwhere x.a <= 5\nset a to x.a + 2")
NEXT = Statement.read(SCHEMA, "update u from x u\nwhere x.k <= 9\nset k to x.k + 1")
UP, DOWN, HEAP = (("up", "a"),), (("down", "a"),), (("heap",),)
DATA = Database(SCHEMA, (("p", 0, ()), ("t", 4, ((0, (1, 0)), (3, (4, 1)))), ("u", 0, ())))


def finding(kind, statement, *told):
    return (kind, statement.schema.tables, statement.parts, *told)


def chosen(statement, sizes, shares, hands):
    """A finding of the choice."""
    return finding("choice", statement, sizes, pairs_of(shares), hands, choose(statement, sizes, shares, hands=hands)[1])


def plain_findings():
    """A finding of each kind that holds."""
    up, heap = Plan(ADD, None, UP), Plan(NEXT)
    down = Plan(NEXT, None, (("down", "k"),))
    return [finding("disturbed", ADD, up.data, *decide(up)[1:]), finding("sound", ADD, up.turned("x").data, ()),
            finding("refuses", NEXT, heap.data, key_look(heap)[1]), finding("never", NEXT, down.data, key_look(down)[1]),
            finding("links", ADD, up.data, DATA.data, 3, 1), chosen(ADD, (("t", 9),), (Ratio(1, 3),), "one")]


class FindingTest(unittest.TestCase):
    def check(self, thing, expected=None):
        """Whether a value holds, if it is so by the words of the document."""
        before = repr(thing)
        found = finding_holds(thing)
        self.assertIs(type(found), bool)
        self.assertIs(found, slow_finding(thing), thing)
        self.assertEqual(repr(thing), before)
        if expected is not None:
            self.assertIs(found, expected, thing)
        return found


class Kinds(FindingTest):
    def test_one_of_each_kind(self):
        found = plain_findings()
        self.assertEqual(tuple(thing[0] for thing in found), KINDS)
        for thing in found:
            self.check(thing, True)
            self.assertIs(finding_holds(thing=thing), True)

    def test_a_kind_for_another(self):
        for thing in plain_findings():
            for kind in KINDS + ("", "Sound", "plain", "choice "):
                # Where no key is set, no trees are needed to say that nothing is refused.
                self.check((kind, *thing[1:]), None if (kind, thing[0]) == ("never", "sound") else kind == thing[0])
            self.check(thing[1:], False)

    def test_variants(self):
        source = random.Random(45)
        for thing in plain_findings():
            others = list(variants(thing))
            for other in source.sample(others, min(len(others), 500)):
                self.check(other)

    def test_random_findings(self):
        source = random.Random(46)
        seen = []
        for _ in range(70):
            statement = lively_statement(source, probes=0.3, keyed=0.3, conditions=source.choice((0, 1, 2, 3)),
                                         references=source.choice((1, 1, 2)))
            for hands in ("one", "many"):
                plans = list(plans_of(statement, hands=hands))
                for plan in source.sample(plans, min(len(plans), 3)):
                    seen += self.findings_of(source, plan)
            sizes, shares = drawn(source, statement)
            hands = source.choice(("one", "many"))
            self.check(chosen(statement, sizes, shares, hands), True)
        for kind in KINDS[:5]:
            self.assertGreater(seen.count(kind), 8, kind)

    def findings_of(self, source, plan):
        """Check all findings of a plan, and some that are not; return their kinds."""
        statement, seen = plan.statement, []
        word, *told = decide(plan)
        told = told if word == "disturbed" else [told[0]]
        self.check(finding(word, statement, plan.data, *told), True)
        seen.append(word)
        self.check(finding("sound" if word == "disturbed" else "refuses", statement, plan.data, told[0]))
        try:
            look, shown = key_look(plan)
            self.check(finding(look, statement, plan.data, shown), True)
            self.check(finding("never" if look == "refuses" else "refuses", statement, plan.data, shown), False)
            seen.append(look)
        except WakeError:
            self.check(finding("never", statement, plan.data, ()), False)
        database = lively_database(source, statement.schema, most=3, least=1)
        number = database[statement.references[0][1]][0][0]
        try:
            count = links(plan, database, number)
            self.check(finding("links", statement, plan.data, database.data, number, count), True)
            self.check(finding("links", statement, plan.data, database.data, number + 1, count))
            seen.append("links")
        except WakeError:
            self.check(finding("links", statement, plan.data, database.data, number, 1), False)
        return seen


class Parts(FindingTest):
    def test_schemas(self):
        p, t, u = SCHEMA.tables
        for thing in plain_findings():
            kind, _, *rest = thing
            for tables in [(t, p, u), (u, t, p), (), (p,), [p, t, u], (p, t, u, u), (p, t, list(u)), (p, t, (p, t, u)), None, SCHEMA.text,
                           (p, ("t", ("a", "b"), ("a", "b"), ("b", "a")), u), (p, ("t", ["a", "b"], ("a",), ("b",)), u)]:
                self.check((kind, tables, *rest), False)
            # The tables that are not in the statement are part of the data.
            more = (*SCHEMA.tables, ("v", ("z",), (), ()))
            self.check((kind, more, *rest), kind in ("sound", "never") or kind == "choice" and thing[-1][2] == ())

    def test_statements(self):
        for thing in plain_findings():
            kind, tables, parts, *rest = thing
            word, table, references, conditions, probes, settings, told = parts
            for other in [parts[:-1], (*parts, ()), list(parts), (), None, ("drop", *parts[1:]), (word, "v", *parts[2:]),
                          (word, table, list(references), *parts[3:]), (word, table, references, list(conditions), *parts[4:]),
                          (word, table, references, conditions, [], settings, told), (word, table, references, conditions, probes, (), told),
                          (word, table, references, conditions, probes, [*settings], told), (*parts[:6], []), (*parts[:6], None),
                          (*parts[:6], ("x", "a"))]:
                self.check((kind, tables, other, *rest), False)
            (x, sign, y, k), = conditions
            for other in [(x, sign, y, True), (x, sign, y, False), (x, sign, y, str(k)), (list(x), sign, y, k), (x, ">=", y, k)]:
                self.check((kind, tables, (*parts[:3], (other,), *parts[4:]), *rest), False)
            # What is told is not asked.
            self.check((kind, tables, (*parts[:6], (x, x)), *rest), True)

    def test_bools_in_statements(self):
        statement = Statement.read(SCHEMA, "update t from x t\nwhere x.a <= 1\nsome p where q >= x.a and q <= 1\nset a to x.a + 1")
        plan = Plan(statement)
        thing = finding("sound", statement, plan.data, decide(plan)[1])
        self.check(thing, True)
        kind, tables, parts, *rest = thing
        (word, table, ((column, sign, other, k),), link), = parts[4]
        for probe in [(word, table, ((column, sign, other, True),), link), (word, table, ((column, sign, other, k),), (*link[:3], False))]:
            other_parts = (*parts[:4], (probe,), *parts[5:])
            self.assertEqual(other_parts, parts)
            self.check((kind, tables, other_parts, *rest), False)
        (name, source, _), = parts[5]
        self.check((kind, tables, (*parts[:5], ((name, source, True),), ()), *rest), False)
        self.check((kind, tables, (*parts[:3], ((("x", "a"), "<=", None, True),), *parts[4:]), *rest), False)

    def test_plans(self):
        for thing in plain_findings()[:5]:
            kind, tables, parts, data, *rest = thing
            order, paths, hold, marks, keep, hands = data
            for other in [data[:-1], (*data, ()), list(data), None, (), (None, *data[1:]), (order, None, *data[2:]), (None, None, *data[2:]),
                          (list(order), *data[1:]), (order, list(paths), *data[2:]), (order, (list(paths[0]),), *data[2:]),
                          (order, paths, False, *data[3:]), (order, paths, hold, [], keep, hands), (order, paths, hold, marks, 0, hands),
                          (order, paths, hold, marks, None, hands), (order, paths, hold, marks, keep, "both"), (order, paths, 7, marks, keep, hands),
                          (order, (("up", "z"),), *data[2:]), (("y",), *data[1:])]:
                self.check((kind, tables, parts, other, *rest), False)
            for other in [(order, paths, 1, marks, keep, hands), (order, paths, hold, ("x",), keep, hands),
                          (order, paths, hold, marks, True, hands), (order, paths, hold, marks, keep, "many")]:
                self.check((kind, tables, parts, other, *rest))

    def test_a_plan_that_is_not_sound(self):
        # The data is refused row by row, but the plan is disturbed on other data.
        schema = Schema(("u", ("k",), ("k",), ("k",)))
        statement = Statement(schema, *NEXT.parts[:3], conditions=NEXT.conditions, settings=NEXT.settings)
        heap, up = Plan(statement), Plan(statement, None, (("up", "k"),))
        shown = (("u", 2, ((0, (1,)), (1, (2,)))),)
        self.check(finding("refuses", statement, heap.data, shown), True)
        self.assertEqual(decide(up)[0], "disturbed")
        self.check(finding("refuses", statement, up.data, shown), False)
        self.check(finding("never", statement, up.data, key_look(up.turned("x"))[1]), False)
        self.check(finding("sound", statement, up.data, ()), False)

    def test_data(self):
        kinds = [thing for thing in plain_findings() if thing[0] in ("disturbed", "refuses", "links")]
        for thing in kinds:
            p, t, u = data = thing[4]
            for other in [data[1:], data[:-1], (p, u), (t,), (t, p, u), data[::-1], list(data), (*data, u), (), None, (p, list(t), u),
                          (p, t, list(u)), (p, (t[0], t[1], list(t[2])), u), (p, (t[0], True, t[2]), u), (p, (t[0], -1, ()), u),
                          (p, t, ("u", 0, ((0, (1,)),))), (p, t, ("u", 5, ((False, (1,)), *u[2][1:]))),
                          (p, t, ("u", 5, ((0, (True,)), (1, (2,))))), (p, t, ("v", 0, ()))]:
                self.check((*thing[:4], other, *thing[5:]), False)
            # Other rows, numbers and next numbers are as good, as long as it is so.
            self.check((*thing[:4], (("p", 8, ((7, (3,)),)), (t[0], t[1] + 4, t[2]), (u[0], u[1] + 4, u[2])), *thing[5:]), True)

    def test_weavings(self):
        thing = plain_findings()[0]
        *front, weaving = thing
        self.assertGreater(len(weaving), 2)
        for other in [(), weaving[:-1], list(weaving), (False,) * len(weaving), weaving + (1,), (1,) * len(weaving), None, 0, "0000",
                      weaving + (-1,), (0,) * 1001]:
            self.check((*front, other), False)

    def test_numbers_and_links(self):
        up = Plan(ADD, None, UP)
        for number, count in [(0, 3), (3, 1)]:
            self.check(finding("links", ADD, up.data, DATA.data, number, count), True)
            for other in (number + 1, -1, None, str(number), (number,), number == 1, 10 ** 40):
                self.check(finding("links", ADD, up.data, DATA.data, other, count), False)
            for other in (count + 1, count - 1, -count, "endless", None, str(count), (count,), [count], True, 10 ** 39, Ratio(count)):
                self.check(finding("links", ADD, up.data, DATA.data, number, other), False)
        self.check(finding("links", ADD, up.data, DATA.data, False, 3), False)
        copy = Statement.read(SCHEMA, "insert t from x t\nset a to x.a\nset b to 0")
        data = Plan(copy).data
        self.check(finding("links", copy, data, DATA.data, 0, "endless"), True)
        for other in (10 ** 40, 0, "Endless", "endless ", None, ("endless",)):
            self.check(finding("links", copy, data, DATA.data, 0, other), False)

    def test_links_of_other_plans(self):
        for plan in list(plans_of(ADD)) + list(plans_of(ADD, hands="many")):
            plain = plan.data[2:] == (0, (), False, "one")
            count = 3 if plan.paths == UP else 1
            self.check(finding("links", ADD, plan.data, DATA.data, 0, count), plain)
        gone = Statement.read(SCHEMA, "delete t from x t")
        self.check(finding("links", gone, Plan(gone).data, DATA.data, 0, 1), False)

    def test_far_links(self):
        far = Statement.read(SCHEMA, f"update t from x t\nwhere x.a <= {10 ** 39}\nset a to x.a + 3")
        thing = finding("links", far, Plan(far, None, UP).data, DATA.data, 0, (10 ** 39 - 1) // 3 + 1)
        self.check(thing, True)
        self.check((*thing[:-1], thing[-1] + 1), False)

    def test_trees(self):
        statement = Statement.read(SCHEMA, "insert t from x t, y u\nwhere x.a <= y.k\nwhere y.k <= 7\nset a to y.k\nset b to 0")
        plan = Plan(statement, ("x", "y"), (("down", "a"), ("down", "k")))
        trees = decide(plan)[1]
        self.assertGreater(len(trees), 1)
        thing = finding("sound", statement, plan.data, trees)
        self.check(thing, True)
        for other in [(), trees[1:], trees[::-1], list(trees), trees + trees[-1:], None, dict(trees)]:
            self.check((*thing[:-1], other), False)
        for other in variants(trees[0][1]):
            self.check((*thing[:-1], ((trees[0][0], other), *trees[1:])))

    def test_sizes(self):
        statement = Statement.read(SCHEMA, "insert p from x t, y u\nwhere x.a <= y.k\nset q to 1")
        sizes = (("t", 40), ("u", 2))
        thing = chosen(statement, sizes, (Ratio(1, 3),), "one")
        self.check(thing, True)
        kind, tables, parts, _, *rest = thing
        for other in [(("p", 0), ("t", 40), ("u", 2)), (("t", 40),), (("u", 2),), (), (("u", 2), ("t", 40)), (("t", 40), ("t", 40), ("u", 2)),
                      (("t", 40), ("u", 2), ("u", 2)), [("t", 40), ("u", 2)], (["t", 40], ("u", 2)), (("t", -1), ("u", 2)),
                      (("t", "40"), ("u", 2)), (("t", None), ("u", 2)), (("t", 40), ("v", 2)), (("t", 40, 0), ("u", 2)), (("t",), ("u", 2)),
                      (40, 2), {"t": 40, "u": 2}, None, (("t", Ratio(40)), ("u", 2))]:
            self.check((kind, tables, parts, other, *rest), False)
        self.check((kind, tables, parts, (("t", 2), ("u", 40)), *rest))
        thing = chosen(statement, (("t", 1), ("u", 0)), (Ratio(1, 3),), "one")
        self.check(thing, True)
        for other in [(("t", True), ("u", 0)), (("t", 1), ("u", False))]:
            self.check((*thing[:3], other, *thing[4:]), False)
        # One table of two references has one size.
        twice = Statement.read(SCHEMA, "delete t from x t, y t")
        self.check(chosen(twice, (("t", 5),), (), "many"), True)
        self.check(finding("choice", twice, (("t", 5), ("t", 5)), (), "many", choose(twice, (("t", 5),), (), hands="many")[1]), False)

    def test_shares(self):
        statement = Statement.read(SCHEMA, "update t from x t\nwhere x.a <= 3\nnone p where q = x.a\nset a to x.b")
        thing = chosen(statement, (("t", 9),), (Ratio(1), Ratio(0)), "one")
        self.check(thing, True)
        front, rest = thing[:4], thing[5:]
        self.assertEqual(thing[4], ((1, 1), (0, 1)))
        for other in [((1, 1),), ((1, 1), (0, 1), (0, 1)), (), ((2, 2), (0, 1)), ((1, 1), (0, 2)), ((1, 1), (0, 0)), ((1, 1), (0, -1)),
                      ((-1, -1), (0, 1)), ((2, 1), (0, 1)), ((1, 1), (-1, 2)), ((1, 1), (1, -2)), ((True, 1), (0, 1)), ((1, True), (0, 1)),
                      ((1, 1), (False, 1)), [(1, 1), (0, 1)], ([1, 1], (0, 1)), ((1, 1, 1), (0, 1)), (1, 0), ("1/1", "0"), None,
                      (Ratio(1), Ratio(0)), ((1, 1), None), ((1, 1), ()), ((1, 1), (0,))]:
            self.check((*front, other, *rest), False)
        self.check((*front, ((1, 1), (1, 2)), *rest))

    def test_hands_and_papers(self):
        for hands in ("one", "many"):
            thing = chosen(ADD, (("t", 9),), (Ratio(1, 3),), hands)
            self.check(thing, True)
            for other in ("one", "many", "both", "", None, 1, True, ("one",), ["many"]):
                self.check((*thing[:5], other, thing[6]), other == hands)
            for other in [None, (), thing[6][:2], (*thing[6], ()), list(thing[6]), thing[6][::-1], choose(ADD, (("t", 9),), (Ratio(1, 3),))[0]]:
                self.check((*thing[:6], other), False)


class AnyValue(FindingTest):
    def test_any_value(self):
        for thing in ODD + [deep(60), deep(59), {"sound": ()}, ("sound",), ("sound", ()), ("sound", (), (), (), ()), ("never",) * 5,
                            ("choice", (), (), (), (), (), ()), ("links",) + ((),) * 6, ("disturbed",) + ((),) * 5, ["sound", (), (), (), ()],
                            ("sound", SCHEMA.tables, ADD.parts, None, ()), ((),) * 5, ([],) * 5, ({},) * 7, ("sound", {}, [], None, 1),
                            ("links", SCHEMA, ADD, Plan(ADD), DATA, 0, 1), ("sound",) * 60, (["sound"], (), (), (), ())]:
            self.assertIs(finding_holds(thing), False)

    def test_any_value_in_each_place(self):
        for thing in plain_findings():
            for at in range(len(thing)):
                for part in ODD + [deep(59), {"t": [()]}, [deep(50)], tuple({} for _ in range(7)), tuple([] for _ in range(6)), (((),),) * 3]:
                    other = thing[:at] + (part,) + thing[at + 1:]
                    if part != thing[at]:
                        self.assertIs(finding_holds(other), False, other)

    def test_lists_for_tuples_at_any_depth(self):
        def listed(thing):
            return [listed(part) for part in thing] if isinstance(thing, tuple) else thing
        for thing in plain_findings():
            self.assertIs(finding_holds(listed(thing)), False)
            for at, part in enumerate(thing):
                if isinstance(part, tuple) and part != ():
                    self.assertIs(finding_holds(thing[:at] + (listed(part),) + thing[at + 1:]), False)
                    self.assertIs(finding_holds(thing[:at] + (tuple(listed(some) for some in part),) + thing[at + 1:]),
                                  all(not isinstance(some, tuple) for some in part))

    def test_bools_for_integers_at_any_depth(self):
        def swapped(thing):
            """A value in which one integer, if there is a 0 or 1, is a bool; for each place."""
            if isinstance(thing, tuple):
                for at, part in enumerate(thing):
                    for other in swapped(part):
                        yield thing[:at] + (other,) + thing[at + 1:]
            elif type(thing) is int and thing in (0, 1):
                yield bool(thing)
        count = 0
        for thing in plain_findings() + [chosen(ADD, (("t", 1),), (Ratio(1),), "many")]:
            for other in swapped(thing):
                count += 1
                self.assertEqual(other, thing)
                self.assertIs(finding_holds(other), False, other)
        self.assertGreater(count, 40)

    def test_time(self):
        begun = time.time()
        columns = ("a", "b", "c")
        schema = Schema(*[(name, columns, columns, columns) for name in "tu"], ("p", columns, (), ()))
        cells = [(alias, column) for alias in "xy" for column in columns]
        statement = Statement(schema, "update", "t", (("x", "t"), ("y", "t")),
                              conditions=tuple((cells[at], "<=", cells[-at - 1], at) for at in range(5)),
                              settings=tuple((column, ("x", "a"), 1) for column in columns))
        shares = (Ratio(1, 3),) * 5
        thing = chosen(statement, (("t", 50),), shares, "one")
        self.assertIs(finding_holds(thing), True)
        self.assertIs(finding_holds((*thing[:6], (thing[6][0], thing[6][1], thing[6][2][1:]))), False)
        self.assertLess(time.time() - begun, 20)
        rows = tuple((number, (number, number)) for number in range(5000))
        data = (("p", 0, ()), ("t", 5000, rows), ("u", 0, ()))
        begun = time.time()
        self.assertIs(finding_holds(finding("links", ADD, Plan(ADD, None, UP).data, data, 3, 2)), True)
        far = Statement.read(SCHEMA, "update t from x t\nwhere x.a <= 100000\nset a to x.a + 100")
        self.assertIs(finding_holds(finding("disturbed", far, Plan(far, None, UP).data, data, (0,) * 1000)), True)
        self.assertLess(time.time() - begun, 6)


if __name__ == "__main__":
    unittest.main()
