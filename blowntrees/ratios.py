"""Ratios: pairs (a, b) without a common divisor, b at least 1."""

from math import gcd


def ratio(a, b):
    """Return a divided by b, which is not 0, in lowest terms."""
    common = gcd(a, b)
    if b < 0:
        common = -common
    return (a // common, b // common)


def less_inverse(one, other):
    """Return one ratio less 1 divided by another one, which is not zero."""
    a, b = one
    c, d = other
    return ratio(a * c - b * d, b * c)
