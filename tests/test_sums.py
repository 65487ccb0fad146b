"""[40], [41]: sums over the fractions of chains, and the levels of their trees."""

import functools
import math
import random
import unittest
from fractions import Fraction

from blowntrees.chains import chain_number, chain_of, chain_tree, other_side
from blowntrees.classes import all_classes, lowest
from blowntrees.errors import TooGreat, TooMany
from blowntrees.heights import standing
from blowntrees.sums import chain_levels, fraction_sum
from belows import box_size
from exact import fraction, in_lowest_terms
from refusing import Refusing

BIG = 10 ** 50


def numbers_up_to(most):
    return [(n, q) for n in range(2, most + 1) for q in range(1, n) if math.gcd(n, q) == 1]


def some_numbers(seed, count, low, high):
    chance = random.Random(seed)
    found = []
    while len(found) < count:
        n = chance.randint(low, high)
        q = chance.randrange(1, n)
        if math.gcd(n, q) == 1:
            found.append((n, q))
    return found


def sawtooth(x):
    return Fraction(0) if x.denominator == 1 else x - math.floor(x) - Fraction(1, 2)


def plain_sum(n, q):
    return sum((sawtooth(Fraction(i, n)) * sawtooth(Fraction(i * q, n)) for i in range(1, n)), Fraction(0))


SMALL = numbers_up_to(45)
GREAT = [(5000, 1), (5000, 4999), (5000, 2001), (4999, 2500), (4999, 1), (4096, 1365), (4181, 2584), (2, 1)]


def trees_of_chains(numbers):
    """Return the pairs of a number and the tree of its chain, where there is one."""
    pairs = []
    for number in numbers:
        try:
            pairs.append((number, chain_tree(chain_of(number))))
        except (TooMany, TooGreat):
            continue
    return pairs


class FractionSums(Refusing):
    def test_small_numbers(self):
        for n, q in SMALL:
            told = fraction_sum((n, q))
            self.assertTrue(in_lowest_terms(told))
            self.assertEqual(fraction(told), plain_sum(n, q))

    def test_great_numbers(self):
        for n, q in GREAT + some_numbers(240, 8, 1000, 5000):
            told = fraction_sum((n, q))
            self.assertTrue(in_lowest_terms(told))
            self.assertEqual(fraction(told), plain_sum(n, q))

    def test_known_sums(self):
        for number, told in [((2, 1), (0, 1)), ((3, 1), (1, 18)), ((3, 2), (-1, 18)), ((5, 2), (0, 1)), ((5, 1), (1, 5)),
                             ((7, 1), (5, 14)), ((7, 2), (1, 14))]:
            self.assertEqual(fraction_sum(number), told)

    def test_too_many(self):
        for n, q in [(5001, 1), (5001, 5000), (5002, 3), (10007, 2), (BIG, 1), (BIG, BIG - 1), (BIG + 1, BIG // 3)]:
            self.refused(TooMany, {"limit": 5000}, fraction_sum, (n, q))
        self.assertEqual(fraction(fraction_sum((5000, 1))), Fraction(4999 * 4998, 12 * 5000))

    def test_both_sums_add_up(self):
        for n, q in SMALL + GREAT + some_numbers(241, 30, 1000, 5000):
            rest = fraction(fraction_sum((q, n % q))) if q > 1 else 0
            total = (Fraction(n, q) + Fraction(q, n) + Fraction(1, n * q)) / 12 - Fraction(1, 4)
            self.assertEqual(fraction(fraction_sum((n, q))) + rest, total)

    def test_standing(self):
        pairs = trees_of_chains(SMALL + GREAT + some_numbers(242, 100, 100, 5000))
        self.assertGreater(len(pairs), 300)
        for (n, q), tree in pairs:
            told = Fraction(2 * (n - 1), n) - 12 * fraction(fraction_sum((n, q)))
            self.assertEqual(fraction(standing(tree)), told)

    def test_backward_and_other_side(self):
        met = 0
        for n, q in SMALL + GREAT + some_numbers(243, 60, 100, 5000):
            told = fraction_sum((n, q))
            self.assertEqual(fraction_sum((n, n - q)), (-told[0], told[1]))
            self.assertEqual(fraction_sum((n, pow(q, -1, n))), told)
            try:
                chain = chain_of((n, q))
                self.assertEqual(fraction_sum(chain_number(chain[::-1])), told)
                self.assertEqual(fraction_sum(chain_number(other_side(chain))), (-told[0], told[1]))
                met += 1
            except TooMany:
                continue
        self.assertGreater(met, 200)


@functools.lru_cache(None)
def plain_level(n, q, i):
    """Return the number by the words of the document."""
    if n == 1:
        return Fraction(0)
    rest, j = (n % q, i % q) if q > 1 else (0, 0)
    return Fraction(-1, 8) + Fraction((2 * i + 1 - n - q) ** 2, 8 * n * q) - plain_level(q, rest, j)


class ChainLevels(Refusing):
    def test_by_the_rule(self):
        for n, q in SMALL + [(400, 1), (400, 399), (400, 161), (399, 200), (377, 233), (397, 7)]:
            told = chain_levels((n, q))
            self.assertIs(type(told), tuple)
            self.assertTrue(all(in_lowest_terms(level) for level in told))
            self.assertEqual([fraction(level) for level in told], sorted(plain_level(n, q, i) for i in range(n)))

    def test_as_often_as_they_come(self):
        for n, q in SMALL:
            self.assertEqual(len(chain_levels((n, q))), n)
        self.assertEqual(chain_levels((2, 1)), ((-1, 8), (1, 8)))
        self.assertEqual(chain_levels((3, 1)), ((-1, 12), (-1, 12), (1, 4)))
        self.assertEqual(chain_levels((5, 2)), ((-1, 5), (-1, 5), (0, 1), (1, 5), (1, 5)))

    def test_lowest_of_all_classes(self):
        compared = 0
        for number, tree in trees_of_chains(numbers_up_to(24) + some_numbers(244, 40, 25, 100)):
            if box_size(tree) > 1500:
                continue
            levels = sorted(fraction(lowest(tree, k)) for k in all_classes(tree))
            self.assertEqual([fraction(level) for level in chain_levels(number)], levels)
            compared += 1
        self.assertGreater(compared, 100)

    def test_too_many(self):
        for n, q in [(401, 1), (401, 400), (402, 5), (5000, 1), (BIG, 1), (BIG + 1, BIG)]:
            self.refused(TooMany, {"limit": 400}, chain_levels, (n, q))
        self.assertEqual(len(chain_levels((400, 7))), 400)


if __name__ == "__main__":
    unittest.main()
