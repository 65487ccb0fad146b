"""Sums over the fractions of a chain, and the levels that its tree has."""

from math import lcm

from blowntrees.errors import TooMany
from blowntrees.ratios import added, ratio

MOST_PARTS = 5000
MOST_LEVELS = 400


def fraction_sum(number):
    """Return the sum of ((i / n)) times ((i q / n)) over i from 1 to n - 1."""
    n, q = number
    if n > MOST_PARTS:
        raise TooMany(MOST_PARTS)
    # Neither i / n nor i q / n is an integer, so 2 n times each ((x)) is twice
    # a remainder less n.
    total = sum([(2 * i - n) * (2 * (i * q % n) - n) for i in range(1, n)])
    return ratio(total, 4 * n * n)


def chain_levels(number):
    """Return the least levels of all classes of the tree of a chain, by size."""
    n, q = number
    if n > MOST_LEVELS:
        raise TooMany(MOST_LEVELS)
    levels = [_level_at(n, q, i) for i in range(n)]
    common = 1
    for _, b in levels:
        common = lcm(common, b)
    return tuple([ratio(part, common) for part in sorted([a * (common // b) for a, b in levels])])


def _level_at(n, q, i):
    """Return the ratio l(n, q, i), worked out from remainder to remainder."""
    total = (0, 1)
    sign = 1
    while q > 0:
        twice = 2 * i + 1 - n - q
        total = added(total, ratio(sign * (twice * twice - n * q), 8 * n * q))
        n, q, i = q, n % q, i % q
        sign = -sign
    return total
