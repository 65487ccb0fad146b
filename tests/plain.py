"""Steps, roots and levels worked out plainly, apart from the package."""

import math
from fractions import Fraction

from exact import plain_table, times


def plain_climb(chance, tree, x, barred=()):
    """Do steps by chance as long as there is one; return the cycle and what is met."""
    rows = plain_table(tree)
    x = list(x)
    met = []
    while True:
        row = times(rows, x)
        places = [place for place, entry in enumerate(row) if entry > 0 and place not in barred]
        if not places:
            return tuple(x), met
        place = chance.choice(places)
        met.append(row[place])
        x[place] += 1


def plain_height(tree, k, x):
    row = times(plain_table(tree), x)
    doubled = -sum(a * b for a, b in zip(k, x)) - sum(a * b for a, b in zip(row, x))
    assert doubled % 2 == 0
    return doubled // 2


def outward(tree):
    """Return places with their parents, from place 0 outward."""
    steps = [(0, None)]
    for place, parent in steps:
        for tie in tree[1]:
            if place in tie:
                other = tie[0] + tie[1] - place
                if other != parent:
                    steps.append((other, place))
    return steps


def least_integer(number):
    return -((-number).__floor__())


def rows_up_to(tree, inverse, k, most, limit):
    """Return the rows of the class of k with a level of at most `most`.

    It stops when there are more than the limit. With y the inverse times a
    row, the level tells the sum of the squares that come when the tree is
    folded in; each of these is kept below what is left.
    """
    if not tree[0]:
        return [()]
    steps = outward(tree)
    folded = [Fraction(weight) for weight in tree[0]]
    for place, parent in reversed(steps):
        if parent is not None:
            folded[parent] -= 1 / folded[place]
    start = times(inverse, k)
    found = []
    left = [({}, Fraction(8 * most + len(tree[0])))]
    while left and len(found) <= limit:
        told, room = left.pop()
        if len(told) == len(steps):
            y = [told[place] for place in range(len(steps))]
            found.append(tuple(int(entry) for entry in times(plain_table(tree), y)))
            continue
        place, parent = steps[len(told)]
        shift = Fraction(0) if parent is None else told[parent] / folded[place]
        # |y + shift| is at most this bound, taken a little too great.
        bound = Fraction(math.isqrt(int(room / -folded[place])) + 1)
        first = least_integer((-bound - shift - start[place]) / 2)
        last = ((bound - shift - start[place]) / 2).__floor__()
        for times_added in range(first, last + 1):
            y = start[place] + 2 * times_added
            rest = room + folded[place] * (y + shift) ** 2
            if rest >= 0:
                left.append(({**told, place: y}, rest))
    return found


def plain_parts(members, beside):
    """Return the parts of some members, as lists."""
    members = dict.fromkeys(members)
    parts = []
    while members:
        part = [members.popitem()[0]]
        for member in part:
            for other in beside(member):
                if other in members:
                    del members[other]
                    part.append(other)
        parts.append(part)
    return parts


def plain_root(part, levels, beside, floor):
    """Return the root of a part by the words of the document."""
    for t in sorted({levels[member] for member in part}, reverse=True):
        parts = plain_parts([member for member in part if levels[member] < t], beside)
        if len(parts) >= 2:
            return (int(t - floor), tuple(sorted(plain_root(one, levels, beside, floor) for one in parts)))
    return (int(min(levels[member] for member in part) - floor), ())


def parts_at(root, m):
    """Return how many parts of a root there are at a height."""
    if m >= root[0]:
        return 1
    return sum(parts_at(inner, m) for inner in root[1])


def plain_rank(root):
    return sum(parts_at(root, m) - 1 for m in range(root[0] + 1))


def is_root(value):
    """Tell whether a value is a root as the document tells it."""
    if type(value) is not tuple or len(value) != 2 or type(value[0]) is not int or type(value[1]) is not tuple:
        return False
    if value[0] < 0 or len(value[1]) == 1 or list(value[1]) != sorted(value[1]):
        return False
    return all(is_root(inner) and inner[0] < value[0] for inner in value[1])
