"""Systems of differences that grow and shrink, with values that always make them hold."""

from heapq import heappop, heappush


class System:
    """Atoms u - v <= k over unknowns that are known from the beginning, and `()`."""

    def __init__(self, unknowns):
        sides = [(), *unknowns]
        self._unknowns = unknowns
        self._indexes = {side: at for at, side in enumerate(sides)}
        self._values = [0 for _ in sides]
        # Of each side the atoms in which it is v, each as the index of u, k and the atom.
        self._leading = [[] for _ in sides]

    def holds(self, atom):
        """Whether an atom holds by the values as they are."""
        return self.lack(atom) == 0

    def lack(self, atom):
        """By how much the values as they are miss an atom."""
        u, v, k = atom
        return max(0, self._values[self._indexes[u]] - self._values[self._indexes[v]] - k)

    def add(self, atom):
        """Add an atom; or return a ring that it makes together with those that are there, and add nothing."""
        ring = None if self.holds(atom) else self._make_hold(atom)
        if ring is None:
            u, v, k = atom
            self._leading[self._indexes[v]].append((self._indexes[u], k, atom))
        return ring

    def take_back(self, atom):
        """Take away the atom that was added last; the values hold without it, too."""
        self._leading[self._indexes[atom[1]]].pop()

    def pairs(self):
        """The unknowns with their values, ascending, such that `()` stands for 0."""
        zero = self._values[self._indexes[()]]
        return tuple([(unknown, self._values[self._indexes[unknown]] - zero) for unknown in sorted(self._unknowns)])

    def _make_hold(self, atom):
        """Lower values until an atom and all that are there hold; or return a ring."""
        u, v, k = atom
        first, last = self._indexes[u], self._indexes[v]
        # The drops that are due, the greatest first; a value that has dropped once never drops again.
        due = [(self._values[last] + k - self._values[first], first)]
        least = {first: due[0][0]}
        reasons = {first: atom}
        lowered = {}
        while due != []:
            drop, here = heappop(due)
            if here not in lowered:
                lowered[here] = self._values[here] + drop
                for there, more, reason in self._leading[here]:
                    deeper = lowered[here] + more - self._values[there]
                    if there not in lowered and deeper < least.get(there, 0):
                        least[there] = deeper
                        reasons[there] = reason
                        heappush(due, (deeper, there))
            if last in least:
                return self._ring(reasons, last, first)
        for here in lowered:
            self._values[here] = lowered[here]
        return None

    def _ring(self, reasons, last, first):
        """The atoms by which the lowering of one value leads to that of another one, and the one that began it."""
        ring = []
        here = last
        while here != first:
            ring.append(reasons[here])
            here = self._indexes[reasons[here][1]]
        return (*ring, reasons[first])
