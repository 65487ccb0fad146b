"""Ratios: pairs (a, b) without a common divisor, b at least 1."""

from math import gcd


def ratio(a, b):
    """Return a divided by b, which is not 0, in lowest terms."""
    common = gcd(a, b)
    if b < 0:
        common = -common
    return (a // common, b // common)


def less_inverse(one, other):
    """Return one ratio less 1 divided by another one, which is not zero."""
    a, b = one
    c, d = other
    return ratio(a * c - b * d, b * c)


def added(one, other):
    """Return the sum of two ratios."""
    a, b = one
    c, d = other
    return ratio(a * d + b * c, b * d)


def inverse_modulo(number, limit):
    """Return the least integer of at least 0 that a number times it is 1 modulo the limit.

    They have no common divisor above 1, and the limit is at least 1.
    """
    # Each rest is the number times what stands beside it, modulo the limit.
    rest, times = limit, 0
    next_rest, next_times = number % limit, 1
    while next_rest > 0:
        parts = rest // next_rest
        rest, next_rest = next_rest, rest - parts * next_rest
        times, next_times = next_times, times - parts * next_times
    return times % limit
