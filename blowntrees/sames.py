"""Least trees, and the moves that lead from a tree to another one."""

from blowntrees.blowing import blown_down, loose_places
from blowntrees.checks import check_below
from blowntrees.errors import NotMoves, NotSame, TreeError
from blowntrees.listings import least_form, least_listing
from blowntrees.moves import is_move, made
from blowntrees.trees import neighbours


def least_tree(tree):
    """Return the least form of what is left when no loose place is left."""
    check_below(tree)
    return least_form(_ways_down(tree)[-1][0])


def are_same(tree, other):
    """Tell whether the least trees of two trees are equal."""
    return least_tree(tree) == least_tree(other)


def moved(tree, moves):
    """Return the tree that comes when any value is done as a tuple of moves."""
    if not isinstance(moves, tuple):
        raise NotMoves(-1)
    for index, move in enumerate(moves):
        if not is_move(tree, move):
            raise NotMoves(index)
        try:
            tree = made(tree, move)
        except TreeError:
            raise NotMoves(index) from None
    return tree


def moves_between(tree, other):
    """Return a tuple of moves that leads from a tree to a same one.

    It goes down to the tree without loose places, and up from there by what
    leads down from the other tree, backward. So no tree on the way is greater
    than both trees are.
    """
    if not are_same(tree, other):
        raise NotSame("the trees are not the same")
    ways = _ways_down(tree)
    other_ways = _ways_down(other)
    moves = [("down", place) for _, place in ways[:-1]]
    moves.append(("list", _listing_between(ways[-1][0], other_ways[-1][0])))
    for above, place in reversed(other_ways[:-1]):
        moves.append(_up_move(above, place))
        moves.append(("list", _listing_up(len(above[0]), place)))
    return tuple(moves)


def _ways_down(tree):
    """Return the trees on the way down, each with the place blown down next.

    The last one has no loose place, and -1 stands beside it.
    """
    ways = []
    loose = loose_places(tree)
    while loose:
        ways.append((tree, loose[-1]))
        tree = blown_down(tree, loose[-1])
        loose = loose_places(tree)
    ways.append((tree, -1))
    return ways


def _listing_between(tree, other):
    """Return a listing that leads from a tree to one that is like it."""
    listing = [0] * len(tree[0])
    for place, other_place in zip(least_listing(tree), least_listing(other)):
        listing[other_place] = place
    return tuple(listing)


def _up_move(tree, place):
    """Return the move that undoes the blowing down of a place of a tree."""
    near = [other - 1 if other > place else other for other in neighbours(tree, place)]
    if not near:
        return ("new",)
    if len(near) == 1:
        return ("at", near[0])
    return ("on", near[0], near[1])


def _listing_up(many, place):
    """Return the listing of many places that brings the last one to a place."""
    listing = list(range(many - 1))
    listing.insert(place, many - 1)
    return tuple(listing)
