"""Stars: trees of chains that all begin at one middle place."""

from math import gcd

from blowntrees.chains import chain_number, chain_of
from blowntrees.errors import NotApart, NotBelow, NotStar, TooMany
from blowntrees.lefts import multiplied
from blowntrees.limits import limited
from blowntrees.ratios import added, inverse_modulo
from blowntrees.splits import hanging_places
from blowntrees.trees import is_whole, joints

FEWEST_ARMS = 3
MOST_ARMS = 6
MOST_CORNERS = 20000


def star_tree(star):
    """Return the tree of a star: its middle place, and arm by arm their chains."""
    middle, arms = star
    weights = [middle]
    ties = []
    for chain in [chain_of(arm) for arm in arms]:
        ties.append((0, len(weights)))
        for entry in chain[:-1]:
            weights.append(-entry)
            ties.append((len(weights) - 1, len(weights)))
        weights.append(-chain[-1])
    return limited(weights, ties)


def star_of(tree):
    """Return the star whose tree is like a tree."""
    middles = joints(tree)
    if len(middles) != 1:
        raise NotStar("there is not just one joint")
    middle = middles[0]
    if any([weight > -2 for place, weight in enumerate(tree[0]) if place != middle]):
        raise NotStar("a place beside the middle has a weight above -2")
    branches = hanging_places(tree, middle)
    if len(branches) > MOST_ARMS:
        raise NotStar("there are too many arms")
    arms = [chain_number([-tree[0][place] for place in branch]) for branch in branches]
    return (tree[0][middle], tuple(sorted(arms)))


def star_sum(star):
    """Return the ratio of the middle plus the sum of b / a over the arms (a, b)."""
    middle, arms = star
    total = (middle, 1)
    for a, b in arms:
        total = added(total, (b, a))
    return total


def star_row(star, count):
    """Return the heights that a star below zero tells without its tree."""
    if star_sum(star)[0] >= 0:
        raise NotBelow("the sum of the star is not below zero")
    middle, arms = star
    heights = [0]
    while len(heights) < count:
        i = len(heights) - 1
        raised = sum([-(-i * b // a) for a, b in arms])
        heights.append(heights[i] + 1 - i * middle - raised)
    return tuple(heights)


def sphere_star(numbers):
    """Return the star with the sum -1 / (the product of some numbers apart)."""
    _check_apart(numbers)
    whole = multiplied(numbers)
    # The sum times the product is to be -1. Modulo a, the arms of the other
    # numbers add 0 to that, so b times the product of the others is -1.
    arms = [(a, -inverse_modulo(whole // a, a) % a) for a in numbers]
    middle = (-1 - sum([b * (whole // a) for a, b in arms])) // whole
    return (middle, tuple(sorted(arms)))


def corner_sum(p, q, r):
    """Return how many corners lie from 0 to 1 or 2 to 3, less those from 1 to 2."""
    _check_apart((p, q, r))
    whole = p * q * r
    if whole > MOST_CORNERS:
        raise TooMany(MOST_CORNERS)
    total = 0
    for i in range(1, p):
        for j in range(1, q):
            told = i * q * r + j * p * r
            between = [(told + k * p * q) // whole for k in range(1, r)]
            total += len(between) - 2 * between.count(1)
    return total


def _check_apart(value):
    """Raise NotApart unless a value is a tuple of numbers without common divisors."""
    if not isinstance(value, tuple) or not FEWEST_ARMS <= len(value) <= MOST_ARMS:
        raise NotApart("this is no tuple of 3 to 6 integers")
    whole = 1
    for number in value:
        if not is_whole(number) or number < 2:
            raise NotApart("an entry is no integer of at least 2")
        if gcd(whole, number) > 1:
            raise NotApart("two numbers have a common divisor")
        whole *= number
