"""What a plan costs: how many rows it fetches and stores, by the sizes of the tables and the shares of the tests."""

from ownwake.levels import bounds_scan, condition_level, probe_level
from ownwake.ratios import Ratio


def cost(plan, sizes, shares):
    """The cost of a plan."""
    rows = dict(sizes)
    tables = dict(plan.statement.references)
    total, passed = Ratio(0), Ratio(1)
    for level, alias in enumerate(plan.order, start=1):
        bound, tested = _shares_at(plan, level, shares)
        fetched = passed * Ratio(rows[tables[alias]]) * bound
        passed = fetched * tested
        total = total + fetched
        if level == plan.hold:
            total = total + passed
    return total + passed + passed if plan.keep else total


def sized_tables(statement):
    """The names of the tables whose sizes a cost needs, ascending."""
    return sorted(set([table for _, table in statement.references]))


def _shares_at(plan, level, shares):
    """The share of rows to which the scan of a level is bounded, and the share of these that pass its other tests."""
    conditions = plan.statement.conditions
    bound, tested = Ratio(1), Ratio(1)
    for condition, share in zip(conditions, shares):
        if bounds_scan(plan, level, condition):
            bound = bound * share
        elif condition_level(plan.order, condition) == level:
            tested = tested * share
    for probe, share in zip(plan.statement.probes, shares[len(conditions):]):
        if probe_level(plan.order, probe) == level:
            tested = tested * share
    return bound, tested
