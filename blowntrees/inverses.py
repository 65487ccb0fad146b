"""The inverse of the table of a tree."""

from blowntrees.checks import checked_determinant
from blowntrees.lefts import left_product, left_table
from blowntrees.ratios import ratio


def inverse(tree):
    """Return the matrix of ratios that the table times it is the unit matrix."""
    whole = checked_determinant(tree)
    return tuple([tuple([ratio(-left, whole) for left in row]) for row in left_table(tree)])


def left_determinant(tree, places):
    """Return the product of the determinants of what is left without places."""
    return left_product(tree, places)
