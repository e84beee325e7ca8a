"""Values that are not quite another one, and slow checks of rings, solutions and trees that are easy to believe."""

from ownwake.differences import solve


def variants(thing):
    """Values that differ from a nested tuple in one place: another kind, a part less, more, exchanged, changed."""
    if isinstance(thing, tuple):
        yield list(thing)
        yield {at: part for at, part in enumerate(thing)}
        for at, part in enumerate(thing):
            yield thing[:at] + thing[at + 1:]
            yield thing[:at + 1] + thing[at:]
            yield thing[:at] + (thing,) + thing[at + 1:]
            if at > 0:
                yield thing[:at - 1] + (part, thing[at - 1]) + thing[at + 1:]
            for other in variants(part):
                yield thing[:at] + (other,) + thing[at + 1:]
        yield thing + (0,)
        yield thing + ((),)
    elif isinstance(thing, int):
        yield from (thing + 1, thing - 1, bool(thing), str(thing), None, (thing,))
    elif isinstance(thing, str):
        yield from (thing + "x", thing[:-1], "#", None, (thing,), [thing], 0)


def strict(thing, other):
    """Whether two values are equal and of the same kinds at each depth."""
    if type(thing) is not type(other):
        return False
    if isinstance(thing, tuple):
        return len(thing) == len(other) and all(strict(one, two) for one, two in zip(thing, other))
    return thing == other


def among(thing, others):
    return any(strict(thing, other) for other in others)


def plain_int(thing):
    return type(thing) is int


def slow_ring(atoms, thing):
    if type(thing) is not tuple or len(thing) < 2:
        return False
    if not all(among(atom, atoms) for atom in thing):
        return False
    if any(thing[i] == thing[j] for i in range(len(thing)) for j in range(i)):
        return False
    if any(thing[i][1] != thing[(i + 1) % len(thing)][0] for i in range(len(thing))):
        return False
    return sum(atom[2] for atom in thing) < 0


def occurring(clauses):
    return sorted({side for clause in clauses for some in clause for u, v, _ in some for side in (u, v) if side != ()})


def fulfils(clauses, worth):
    """Whether values, by unknown, make clauses hold."""
    worth = {**worth, (): 0}
    return all(any(all(worth[u] - worth[v] <= k for u, v, k in some) for some in clause) for clause in clauses)


def slow_solution(clauses, thing):
    expected = occurring(clauses)
    if type(thing) is not tuple or len(thing) != len(expected):
        return False
    for pair, unknown in zip(thing, expected):
        if type(pair) is not tuple or len(pair) != 2 or not strict(pair[0], unknown) or not plain_int(pair[1]):
            return False
    return fulfils(clauses, dict(thing))


def slow_tree(clauses, thing, chosen=(), split=()):
    """Whether a value is a tree, with the alternatives that were chosen and the clauses that were split."""
    if type(thing) is not tuple or len(thing) not in (2, 3) or type(thing[0]) is not str:
        return False
    if thing[0] == "ring" and len(thing) == 2:
        atoms = [atom for clause in clauses if len(clause) == 1 for atom in clause[0]]
        return slow_ring(atoms + [atom for some in chosen for atom in some], thing[1])
    if thing[0] != "split" or len(thing) != 3 or not among(thing[1], clauses) or among(thing[1], split):
        return False
    if type(thing[2]) is not tuple or len(thing[2]) != len(thing[1]):
        return False
    return all(slow_tree(clauses, some, (*chosen, alternative), (*split, thing[1]))
               for alternative, some in zip(thing[1], thing[2]))


def drawn_tree(source, clauses, chosen=(), split=()):
    """A tree of clauses that splits what it likes, and begins its rings where it likes; they must have one."""
    atoms = [atom for clause in clauses if len(clause) == 1 for atom in clause[0]]
    word, ring = solve((*atoms, *[atom for some in chosen for atom in some]))
    if word == "ring":
        at = source.randrange(len(ring))
        return "ring", ring[at:] + ring[:at]
    clause = source.choice([clause for clause in clauses if len(clause) != 1 and clause not in split])
    return "split", clause, tuple(drawn_tree(source, clauses, (*chosen, some), (*split, clause)) for some in clause)


SHORT_ROLES = {"w": "written", "o": "other", "f": "first", "s": "second"}


def side(text):
    """An unknown such as w0a, o1#, f0q or s2.0.1q; or 0."""
    if text == "0":
        return ()
    row = text[1:].rstrip("abcdefghijklmnopqrstuvwxyz#")
    return SHORT_ROLES[text[0]], tuple(int(word) for word in row.split(".")), text[1 + len(row):]


def atom(text):
    """An atom such as `w0a - w1a <= 3`."""
    left, sign, rest = text.partition(" - ")
    right, sign, k = rest.partition(" <= ")
    return side(left), side(right), int(k)


def clause(*alternatives):
    """A clause of alternatives such as `w0a - w1a <= 3, w1a - w0a <= -3`."""
    return tuple(sorted({tuple(sorted(atom(part) for part in text.split(", "))) for text in alternatives}))


def listed(*clauses):
    return tuple(sorted(set(clauses)))
