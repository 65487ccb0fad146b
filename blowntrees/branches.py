"""Branches of curves at the places of smooth trees, and their values."""

from blowntrees.errors import NotSmooth, TooMany
from blowntrees.lefts import left_table
from blowntrees.sames import least_tree
from blowntrees.tables import is_below
from blowntrees.trees import leaves, neighbour_lists

MOST_TURN = 2000


def is_smooth(tree):
    """Tell whether a tree below zero is not empty, but its least tree is."""
    return is_below(tree) and bool(tree[0]) and not least_tree(tree)[0]


def check_smooth(tree):
    """Raise NotSmooth unless a tree is smooth."""
    if not is_smooth(tree):
        raise NotSmooth("the tree is not smooth")


def branch_row(tree, place):
    """Return the entries of minus the inverse at a place."""
    check_smooth(tree)
    # The determinant of a smooth tree is 1.
    return tuple(left_table(tree)[place])


def values(tree, place, most):
    """Return all values of a place up to some integer, ascending."""
    told = _told_values(tree, branch_row(tree, place), most)
    return tuple([number for number, is_value in enumerate(told) if is_value])


def gaps(tree, place):
    """Return all integers of at least 1 that are no values of a place."""
    turn = turn_point(tree, place)
    if turn > MOST_TURN:
        raise TooMany(MOST_TURN)
    # From the turn point on all integers are values.
    told = _told_values(tree, branch_row(tree, place), turn)
    return tuple([number for number, is_value in enumerate(told) if not is_value])


def _told_values(tree, row, most):
    """Return the list of whether integers from 0 on are values."""
    parts = [row[leaf] for leaf in leaves(tree)]
    told = [True]
    for number in range(1, most + 1):
        told.append(any([number >= part and told[number - part] for part in parts]))
    return told


def turn_point(tree, place):
    """Return the integer from which on there are no gaps."""
    row = branch_row(tree, place)
    return 1 + sum([power * entry for power, entry in zip(_powers(tree, place), row)])


def _powers(tree, place):
    """Return for each place how many neighbours above 2 it has.

    The branch at the given place counts as a neighbour.
    """
    return [len(near) - (1 if at == place else 2) for at, near in enumerate(neighbour_lists(tree))]


def value_row(tree, place, count):
    """Return the first coefficients of the product of (1 - x^m) to the powers."""
    row = branch_row(tree, place)
    series = [1] + [0] * (count - 1)
    for entry, power in zip(row, _powers(tree, place)):
        for _ in range(power):
            series = _times(series, entry)
        for _ in range(-power):
            series = _divided(series, entry)
    return tuple(series)


def _times(series, entry):
    """Return the coefficients times 1 - x^entry."""
    return [worth - (series[at - entry] if at >= entry else 0) for at, worth in enumerate(series)]


def _divided(series, entry):
    """Return the coefficients divided by 1 - x^entry."""
    told = []
    for at, worth in enumerate(series):
        told.append(worth + (told[at - entry] if at >= entry else 0))
    return told


def meeting(tree, u, v):
    """Return minus the entry of the inverse at two places."""
    return branch_row(tree, u)[v]
