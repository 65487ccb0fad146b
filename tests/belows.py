"""Trees below zero for the tests, and trees blown up by chance."""

import math
import random

from blowntrees.blowing import blown_at, blown_down, blown_on, loose_places
from blowntrees.listings import listed
from blowntrees.tables import determinant, is_below
from samples import E8, EMPTY, FEW, GREAT, all_trees, row_tree, some_listing, some_tree, star, twigs

# The star whose space is the sphere of 2, 3 and 7.
SEVEN = star((-1, -2, -3, -7))
# Trees without near places, with one and with some of them.
NONE_NEAR = [
    ((-9, -1, -4, -1, -10, -10, -4), ((0, 1), (0, 3), (1, 2), (1, 5), (3, 4), (3, 6))),
    ((-1, -15, -15, -9, -4, -3, -1), ((0, 1), (0, 2), (0, 3), (3, 6), (4, 6), (5, 6))),
]
# Steps from the place 6 of the first one, elsewhere than there, are more than
# 20000; those from the place 2 of the second one are 13933.
LONG = ((-3, -3, -6, -15, -2, -1, -26, -2, -3, -2, -9, -4, -3, -5, -3, -2),
        ((0, 4), (0, 8), (0, 10), (0, 14), (1, 15), (2, 10), (3, 6), (3, 13), (4, 5), (5, 12), (7, 8), (7, 11),
         (8, 13), (9, 14), (9, 15)))
LESS_LONG = ((-3, -1, -8, -2, -3, -1, -7, -5, -5, -15, -4, -1, -2, -4, -4, -2),
             ((0, 11), (1, 4), (1, 12), (2, 9), (3, 13), (4, 6), (4, 14), (5, 7), (5, 8), (6, 10), (6, 13), (7, 9),
              (8, 12), (8, 15), (11, 14)))
NOT_BELOW = [((0,), ()), ((1,), ()), ((60,), ()), row_tree((-1, -1)), row_tree((0, 0)), star((-4,) + (-2,) * 8),
             star((0,) * 16), star((-1,) * 4), row_tree((-2,) * 15 + (0,)), row_tree((-1, -2, -1)),
             twigs((60,) * 16), row_tree((19, -21)), row_tree((20, -60))]


def box_size(tree):
    """Return the product of 1 - weight over all places."""
    return math.prod(1 - weight for weight in tree[0])


def up_moves(tree):
    """Return all moves that blow a tree up within the limits."""
    weights, ties = tree
    if not weights:
        return [("new",)]
    moves = [("at", place) for place, weight in enumerate(weights) if weight > -60]
    return moves + [("on", i, j) for i, j in ties if weights[i] > -60 and weights[j] > -60]


def blown(tree, move):
    if move[0] == "new":
        return ((-1,), ())
    if move[0] == "at":
        return blown_at(tree, move[1])
    return blown_on(tree, move[1:])


def blown_up(chance, tree, many):
    """Return a tree blown up by chance until it has so many places."""
    while len(tree[0]) < many:
        tree = blown(tree, chance.choice(up_moves(tree)))
    return tree


def shuffled(chance, tree):
    return listed(tree, some_listing(chance, len(tree[0])))


def brought_down(chance, tree):
    """Return what is left when loose places are blown down by chance."""
    while loose_places(tree):
        tree = blown_down(tree, chance.choice(loose_places(tree)))
    return tree


def some_belows(seed, count, manys, weights):
    """Return trees below zero by chance."""
    chance = random.Random(seed)
    found = []
    while len(found) < count:
        tree = some_tree(chance, chance.choice(manys), weights)
        if is_below(tree):
            found.append(tree)
    return found


def same_pairs(seed, count, most=16):
    """Return pairs of a tree below zero and a same one, by chance."""
    chance = random.Random(seed)
    pairs = []
    for _ in range(count):
        tree = chance.choice(BASES)
        one = blown_up(chance, tree, chance.randint(len(tree[0]), most))
        other = blown_up(chance, tree, chance.randint(len(tree[0]), most))
        pairs.append((shuffled(chance, one), shuffled(chance, other)))
    return pairs


SMALL_BELOW = [tree for many in range(4) for tree in all_trees(many, (-3, -2, -1)) if is_below(tree)]
BASES = ([EMPTY, E8, SEVEN, ((-1,), ()), ((-2,), ()), ((-7,), ()), row_tree((-2, -2)), row_tree((-2, -3, -2)),
          star((-2, -2, -2, -2)), star((-1, -3, -3, -4)), star((-1, -3, -4, -5)), star((-2, -3, -3, -3, -3))]
         + some_belows(70, 12, range(2, 8), (-1, -2, -3, -4)))
GREAT_BELOW = some_belows(71, 10, (15, 16), range(-60, -5)) + some_belows(72, 10, (14, 15, 16), (-2, -3, -4))
SOME_BELOW = ([tree for tree in FEW if is_below(tree)] + NONE_NEAR
              + some_belows(73, 40, range(1, 9), range(-5, 0)) + some_belows(74, 20, range(4, 8), (-1, -1, -2, -5, -9)))
BELOW = SMALL_BELOW + BASES + SOME_BELOW + GREAT_BELOW + [LONG, LESS_LONG]
WHOLE = [tree for tree in FEW + GREAT if determinant(tree) != 0]
NOUGHTS = [tree for tree in FEW + GREAT if determinant(tree) == 0]
