"""Trees for the tests, and plain ways to work things out anew."""

import itertools
import random

EMPTY = ((), ())


def ties_of_code(code, many):
    """Return the ties of the labelled tree with a Pruefer code."""
    degree = [1 + code.count(place) for place in range(many)]
    ties = []
    for place in code:
        leaf = degree.index(1)
        ties.append(tuple(sorted((leaf, place))))
        degree[leaf] -= 1
        degree[place] -= 1
    ends = [place for place in range(many) if degree[place] == 1]
    ties.append(tuple(ends))
    return tuple(sorted(ties))


def all_ties(many):
    """Return the ties of all labelled trees of some places."""
    if many < 2:
        return [()]
    codes = itertools.product(range(many), repeat=many - 2)
    return [ties_of_code(code, many) for code in codes]


def all_trees(many, weights):
    """Return all labelled trees with weights among some."""
    told = itertools.product(weights, repeat=many)
    return [(row, ties) for row in told for ties in all_ties(many)]


def some_tree(chance, many, weights):
    """Return one tree with weights among some, chosen by a seeded chance."""
    row = tuple(chance.choice(weights) for _ in range(many))
    if many < 2:
        return (row, ())
    code = [chance.randrange(many) for _ in range(many - 2)]
    return (row, ties_of_code(code, many))


def some_trees(seed, count, manys, weights):
    chance = random.Random(seed)
    return [some_tree(chance, chance.choice(manys), weights) for _ in range(count)]


def some_listing(chance, many):
    listing = list(range(many))
    chance.shuffle(listing)
    return tuple(listing)


def row_tree(weights):
    """Return the tree whose places stand in a row."""
    weights = tuple(weights)
    return (weights, tuple((k, k + 1) for k in range(len(weights) - 1)))


def star(weights):
    """Return the tree in which all places are neighbours of place 0."""
    weights = tuple(weights)
    return (weights, tuple((0, k) for k in range(1, len(weights))))


def twigs(weights):
    """Return the tree in which place k hangs on place (k - 1) // 2."""
    weights = tuple(weights)
    return (weights, tuple(sorted(((k - 1) // 2, k) for k in range(1, len(weights)))))


def is_tree(tree):
    """Tell it in a way of its own: all places are reached, with n - 1 ties."""
    weights, ties = tree
    if not weights:
        return ties == ()
    reached = {0}
    for _ in weights:
        for i, j in ties:
            if i in reached or j in reached:
                reached |= {i, j}
    return len(reached) == len(weights) and len(ties) == len(weights) - 1


E8 = ((-2,) * 8, ((0, 1), (1, 2), (2, 3), (2, 7), (3, 4), (4, 5), (5, 6)))
BOUNDS = (-60, 60)
SMALL = [tree for many in range(4) for tree in all_trees(many, (-2, -1, 0, 1))]
NAMED = [
    EMPTY, ((-1,), ()), ((0,), ()), ((1,), ()), ((-60,), ()), ((60,), ()), E8,
    row_tree((-2,) * 16), row_tree((0,) * 16), row_tree((60, -60) * 8),
    row_tree((0,) * 15), row_tree((-1,) * 16), row_tree(range(-8, 8)),
    star((-2,) * 16), star((0,) * 16), star((-60,) + (0,) * 15), star((60,) * 16),
    star((-15,) + (-1,) * 15), star((-1,) + (-15,) * 15), star((5, 0, 0, 0, -1)),
    star((-4,) + (-2,) * 7), star((-4,) + (-2,) * 8), star((-3, -2, -2, -2, -2)),
    twigs((-2,) * 16), twigs((-3,) * 16), twigs((0, 1) * 8), twigs((-60,) * 16),
    twigs((60,) * 16), twigs((0,) * 15), twigs((-1, 0, 1, -2) * 4),
]
FEW = NAMED + some_trees(1, 60, range(2, 10), range(-4, 3))
GREAT = (some_trees(2, 30, (15, 16), range(-60, 61)) + some_trees(3, 20, (16,), BOUNDS)
         + some_trees(4, 30, (14, 15, 16), (-2, -1, 0)))
TREES = SMALL + FEW + GREAT
