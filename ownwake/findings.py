"""Findings: what can be said of a statement, with all that it takes to see whether it is so."""

from math import gcd

from ownwake.chains import links
from ownwake.choicechecks import choice_holds
from ownwake.costs import sized_tables
from ownwake.errors import InvalidPlan, InvalidSchema, InvalidStatement, NoChain, NoRow
from ownwake.forms import is_integer, is_natural, is_same, is_tuple
from ownwake.keylooks import never_holds, refuses_holds
from ownwake.planparts import HANDS
from ownwake.plans import Plan
from ownwake.ratios import Ratio
from ownwake.schemas import Schema
from ownwake.soundchecks import database_of, disturbed_holds, sound_holds
from ownwake.statements import Statement

# How many parts a finding has, by its kind.
PARTS = {"disturbed": 6, "sound": 5, "refuses": 5, "never": 5, "links": 7, "choice": 7}


def finding_holds(thing):
    """Whether any value is a finding, and what it says is so."""
    if not isinstance(thing, tuple) or thing == () or not isinstance(thing[0], str):
        return False
    if len(thing) != PARTS.get(thing[0], 0):
        return False
    kind, tables, parts, *told = thing
    statement = _statement_of(tables, parts)
    if statement is None:
        return False
    if kind == "choice":
        return _is_choice(statement, told)
    plan = _plan_of(statement, told[0])
    return plan is not None and _is_so(kind, plan, tuple(told[1:]))


def _statement_of(tables, parts):
    """The statement whose schema's tables, ascending, and whose parts two values are; or None."""
    if not isinstance(tables, tuple) or not is_tuple(parts, 7):
        return None
    kind, table, references, conditions, probes, settings, told = parts
    try:
        schema = Schema(*tables)
        statement = Statement(schema, kind, table, references,
                              conditions=conditions, probes=probes, settings=settings, told=told)
    except (InvalidSchema, InvalidStatement):
        return None
    return statement if schema.tables == tables else None


def _plan_of(statement, thing):
    """The plan whose data any value is, or None."""
    if not is_tuple(thing, 6):
        return None
    order, paths, hold, marks, keep, hands = thing
    try:
        plan = Plan(statement, order, paths, hold=hold, marks=marks, keep=keep, hands=hands)
    except InvalidPlan:
        return None
    # A plan can be made without an order and paths, but its data has them.
    return plan if is_same(thing, plan.data) else None


def _is_so(kind, plan, told):
    """Whether what is told of a plan in a finding of this kind is so."""
    if kind == "disturbed":
        return disturbed_holds(plan, told)
    if kind == "sound":
        return sound_holds(plan, told[0])
    if kind == "refuses":
        return refuses_holds(plan, told[0])
    if kind == "never":
        return never_holds(plan, told[0])
    return _are_links(plan, told)


def _are_links(plan, told):
    """Whether the data of a database, the number of a row, and the links of its chain are told."""
    data, number, count = told
    database = database_of(plan.statement.schema, data)
    if database is None:
        return False
    try:
        return is_same(count, links(plan, database, number))
    except (NoChain, NoRow):
        return False


def _is_choice(statement, told):
    """Whether sizes, shares and hands are told, and a paper of the choice by them."""
    sizes, shares, hands, paper = told
    if not _are_sizes(statement, sizes) or not _are_shares(statement, shares) or hands not in HANDS:
        return False
    return choice_holds(statement, sizes, tuple([Ratio(top, bottom) for top, bottom in shares]), hands, paper)


def _are_sizes(statement, thing):
    """Whether any value is sizes of just the tables of the references."""
    names = sized_tables(statement)
    if not is_tuple(thing, len(names)) or not all([is_tuple(part, 2) for part in thing]):
        return False
    return all([part[0] == name and is_natural(part[1]) for part, name in zip(thing, names)])


def _are_shares(statement, thing):
    """Whether any value is shares of all conditions and probes."""
    count = len(statement.conditions) + len(statement.probes)
    return is_tuple(thing, count) and all([_is_share(part) for part in thing])


def _is_share(thing):
    """Whether any value is a fraction from 0 to 1 in lowest terms."""
    if not is_tuple(thing, 2) or not all([is_integer(part) for part in thing]):
        return False
    top, bottom = thing
    return 0 <= top <= bottom and gcd(top, bottom) == 1
