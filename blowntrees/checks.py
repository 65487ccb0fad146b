"""What a tree must be for what is worked out of it."""

from blowntrees.errors import NotBelow, Nought
from blowntrees.tables import determinant, is_below


def check_below(tree):
    """Raise NotBelow unless a tree is below zero."""
    if not is_below(tree):
        raise NotBelow("the tree is not below zero")


def checked_determinant(tree):
    """Return the determinant of a tree, unless it is 0."""
    whole = determinant(tree)
    if whole == 0:
        raise Nought("the determinant is 0")
    return whole
