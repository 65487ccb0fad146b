"""Chains of integers of at least 2, and the ratios that they stand for."""

from blowntrees.errors import TooMany
from blowntrees.limits import limited
from blowntrees.ratios import ratio

MOST_ENTRIES = 16


def chain_tree(chain):
    """Return the tree whose places stand in a row with the weights -chain[k]."""
    ties = [(place, place + 1) for place in range(len(chain) - 1)]
    return limited([-entry for entry in chain], ties)


def chain_number(chain):
    """Return the ratio a1 - 1 / (a2 - 1 / (.. - 1 / ak))."""
    above = 1
    below = 0
    for entry in reversed(chain):
        above, below = entry * above - below, above
    return (above, below)


def chain_of(number):
    """Return the chain with a number greater than 1."""
    above, below = number
    chain = []
    while below > 0:
        if len(chain) == MOST_ENTRIES:
            raise TooMany(MOST_ENTRIES)
        entry = -(-above // below)
        chain.append(entry)
        above, below = below, entry * below - above
    return tuple(chain)


def other_side(chain):
    """Return the chain with the number n / (n - q)."""
    n, q = chain_number(chain)
    return chain_of(ratio(n, n - q))


def chain_loops(chain):
    """Return n, and the lesser one of the q of a chain and of it backward."""
    n, q = chain_number(chain)
    backward = chain_number(chain[::-1])
    return (n, min(q, backward[1]))
