"""Trees taken apart at a tie or a place, and tied together."""

from blowntrees.lefts import folded_in
from blowntrees.limits import limited
from blowntrees.trees import neighbours, walk


def cut_at(tree, tie):
    """Return the two trees left without a tie, each with its place of the tie."""
    weights, ties = tree
    i, j = tie
    left = (weights, tuple([other for other in ties if other != tie]))
    one, i_there = _hanging_tree(left, i)
    other, j_there = _hanging_tree(left, j)
    return (one, i_there, other, j_there)


def _hanging_tree(places_and_ties, root):
    """Return the tree of what hangs together with a place, and the place there."""
    weights, ties = places_and_ties
    kept = sorted([place for place, _ in walk(places_and_ties, root)])
    number = {place: at for at, place in enumerate(kept)}
    renumbered = [(number[i], number[j]) for i, j in ties if i in number]
    return (limited([weights[place] for place in kept], renumbered), number[root])


def tied(one, i, other, j):
    """Return the tree of two trees with a tie between a place of each."""
    shift = len(one[0])
    moved = [(k + shift, m + shift) for k, m in other[1]]
    return limited([*one[0], *other[0]], [*one[1], *moved, (i, j + shift)])


def side_numbers(tree, place):
    """Return the determinants of the trees that hang on the neighbours of a place."""
    whole = folded_in(tree, place)
    return tuple([whole[other] for other in neighbours(tree, place)])


def hanging_places(tree, place):
    """Return for each neighbour of a place the places there, from it outward."""
    weights, ties = tree
    left = (weights, tuple([tie for tie in ties if place not in tie]))
    return [[other for other, _ in walk(left, near)] for near in neighbours(tree, place)]
