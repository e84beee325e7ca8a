"""How often a statement of one reference meets its own rows, without running it."""

from ownwake.cells import link_values, row_cells, sum_of
from ownwake.chaintests import ConditionTest, MeetingTest, ProbeTest
from ownwake.errors import NoChain, NoRow

# From this member on each column moves by a fixed amount every so many links: columns turn in cycles of up to three.
SETTLED = 3
ROUND = 6
ENDLESS = "endless"


def links(plan, database, number):
    """How many members of the chain of a row the run raises, or the word endless."""
    chains = Chains(plan, database)
    name = plan.statement.references[0][1]
    if (name, number) not in database:
        raise NoRow(name, number)
    return chains.links_from(database.row(name, number))


def raised_in_all(plan, database):
    """How many matches the run raises, or the word endless."""
    chains = Chains(plan, database)
    total = 0
    for _, values in database[plan.statement.references[0][1]]:
        count = chains.links_from(values)
        if count == ENDLESS:
            return ENDLESS
        total += count
    return total


class Chains:
    """The chains of a plan on a database."""

    def __init__(self, plan, database):
        if not _has_chains(plan):
            raise NoChain(plan.data)
        statement = plan.statement
        self._settings = statement.settings
        self._alias, name = statement.references[0]
        self._columns = database.schema[name][1]
        conditions = [ConditionTest(some) for some in statement.conditions]
        probes = [ProbeTest(some, link_values(some, database)) for some in statement.probes]
        # The last one comes last, because where it fails the member is a link yet.
        self._tests = [*conditions, *probes, MeetingTest(plan)]

    def links_from(self, values):
        """The links of the chain of a row with these values, or the word endless."""
        members = [row_cells([(self._alias, self._columns, values)])]
        for at in range(SETTLED):
            members.append(self._moved(members[at]))
            for test in self._tests:
                if test.first_failure(test.amount(members[at], members[at + 1]), 0) is not None:
                    return at + test.granted
        for _ in range(2 * ROUND):
            members.append(self._moved(members[-1]))
        ends = [end for at in range(SETTLED, SETTLED + ROUND) for end in self._ends(members, at)]
        return min(ends, default=ENDLESS)

    def _moved(self, cells):
        """The cells of the member behind one with these cells."""
        moved = {cell: cells[cell] for cell in cells}
        for column, source, k in self._settings:
            moved[self._alias, column] = sum_of(cells, source, k)
        return moved

    def _ends(self, members, at):
        """By each test that fails at this member, or rounds behind it, how many links there are at most."""
        ends = []
        for test in self._tests:
            start = test.amount(members[at], members[at + 1])
            step = test.amount(members[at + ROUND], members[at + ROUND + 1]) - start
            rounds = test.first_failure(start, step)
            if rounds is not None:
                ends.append(at + rounds * ROUND + test.granted)
        return ends


def _has_chains(plan):
    """Whether a plan is one of which chains are told."""
    is_plain = plan.hold == 0 and plan.marks == () and not plan.keep and plan.hands == "one"
    return is_plain and plan.statement.kind != "delete" and len(plan.order) == 1
