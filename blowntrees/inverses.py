"""The inverse of the table of a tree."""

from blowntrees.errors import Nought
from blowntrees.lefts import left_product
from blowntrees.ratios import ratio
from blowntrees.trees import path


def inverse(tree):
    """Return the matrix of ratios that the table times it is the unit matrix."""
    whole = left_product(tree, ())
    if whole == 0:
        raise Nought("the determinant is 0")
    many = len(tree[0])
    rows = []
    for i in range(many):
        lefts = [left_product(tree, path(tree, i, j)) for j in range(many)]
        rows.append(tuple([ratio(-left, whole) for left in lefts]))
    return tuple(rows)


def left_determinant(tree, places):
    """Return the product of the determinants of what is left without places."""
    return left_product(tree, places)
