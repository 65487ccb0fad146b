"""Moves: tuples that tell how a tree is blown up, blown down or listed anew."""

from blowntrees.blowing import blown_at, blown_down, blown_on
from blowntrees.listings import listed
from blowntrees.trees import is_whole


def is_move(tree, value):
    """Tell whether any value is a move for a tree.

    A move may still raise an error when it is made.
    """
    if not isinstance(value, tuple) or not value or not isinstance(value[0], str):
        return False
    kind = value[0]
    if kind == "new":
        return len(value) == 1 and not tree[0]
    if kind == "at" or kind == "down":
        return len(value) == 2 and _is_place(tree, value[1])
    if kind == "on":
        return len(value) == 3 and _is_tie(tree, value[1], value[2])
    return kind == "list" and len(value) == 2 and _is_listing(tree, value[1])


def _is_place(tree, value):
    return is_whole(value) and 0 <= value < len(tree[0])


def _is_tie(tree, i, j):
    return is_whole(i) and is_whole(j) and (i, j) in tree[1]


def _is_listing(tree, value):
    if not isinstance(value, tuple) or not all([is_whole(entry) for entry in value]):
        return False
    return sorted(value) == list(range(len(tree[0])))


def made(tree, move):
    """Return the tree that comes when a move for a tree is made."""
    kind = move[0]
    if kind == "new":
        return ((-1,), ())
    if kind == "at":
        return blown_at(tree, move[1])
    if kind == "on":
        return blown_on(tree, (move[1], move[2]))
    if kind == "down":
        return blown_down(tree, move[1])
    return listed(tree, move[1])
