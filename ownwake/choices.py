"""The atoms of clauses, as far as they have to hold or were chosen."""

from ownwake.atoms import atoms_of, unknowns_of
from ownwake.systems import System


class Choices:
    """A system of atoms to which groups are added and taken back, the last one first.

    Each atom has owners: the indexes of the clauses to whose choices it is due, ascending.
    """

    def __init__(self, clauses):
        self._system = System(unknowns_of(atoms_of(clauses)))
        self._owners = {}
        self._groups = []

    def choose(self, owners, atoms):
        """Add atoms; or return a ring that they make, with all its owners, and add nothing."""
        added = []
        self._groups.append(added)
        for atom in atoms:
            if atom in self._owners:
                continue
            ring = self._system.add(atom)
            if ring is not None:
                due = sorted({owner for some in ring for owner in self._owners.get(some, owners)})
                self.take_back()
                return ring, tuple(due)
            self._owners[atom] = owners
            added.append(atom)
        return None

    def take_back(self):
        """Take away the atoms that were added last."""
        for atom in self._groups.pop()[::-1]:
            self._system.take_back(atom)
            del self._owners[atom]

    def depth(self):
        """How many groups have been added."""
        return len(self._groups)

    def take_back_to(self, depth):
        """Take away what was added last, until there are so many groups."""
        while len(self._groups) > depth:
            self.take_back()

    def attempt(self, owners, atoms):
        """The ring, with its owners, that atoms would make; or None."""
        found = self.choose(owners, atoms)
        if found is None:
            self.take_back()
        return found

    def has(self, atom):
        """Whether an atom is there."""
        return atom in self._owners

    def is_fulfilled(self, clause):
        """Whether some alternative of a clause holds by the values as they are."""
        return any([all([self._system.holds(atom) for atom in alternative]) for alternative in clause])

    def lack(self, alternative):
        """By how much the values as they are miss an alternative."""
        return sum([self._system.lack(atom) for atom in alternative])

    def pairs(self):
        """The unknowns with their values, ascending."""
        return self._system.pairs()
