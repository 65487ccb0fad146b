"""[10], [11]: chains, their numbers, and the other side."""

import itertools
import random
import unittest
from fractions import Fraction
from math import gcd

from blowntrees.chains import chain_loops, chain_number, chain_of, chain_tree, other_side
from blowntrees.errors import TooGreat, TooMany
from blowntrees.listings import least_form
from blowntrees.tables import determinant, table
from exact import exchanged, fraction, in_lowest_terms, plain_determinant, plain_table
from samples import row_tree

CHANCE = random.Random(40)
SHORT = [chain for many in (1, 2, 3, 4) for chain in itertools.product((2, 3, 4, 7), repeat=many)]
LONG = ([(2,) * 16, (60,) * 16, (3,) * 16, (2, 60) * 8, (60,), (2,), (10 ** 30,), (2,) * 15 + (10 ** 9,)]
        + [tuple(CHANCE.randint(2, 60) for _ in range(CHANCE.choice((8, 15, 16)))) for _ in range(40)]
        + [tuple(CHANCE.choice((2, 3, 10 ** 25)) for _ in range(CHANCE.randint(1, 16))) for _ in range(40)])


def plain_number(chain):
    number = Fraction(chain[-1])
    for entry in reversed(chain[:-1]):
        number = entry - 1 / number
    return number


def plain_chain(number):
    """Return the chain of a number, of any length."""
    chain = []
    while number:
        entry = -(-number.numerator // number.denominator)
        chain.append(entry)
        number = 1 / (entry - number) if entry != number else 0
    return tuple(chain)


class Chains(unittest.TestCase):
    def too_many(self, act, value):
        with self.assertRaises(TooMany) as caught:
            act(value)
        self.assertEqual(caught.exception.limit, 16)

    def test_chain_tree(self):
        for chain in SHORT + LONG:
            if max(chain) <= 60:
                self.assertEqual(chain_tree(chain), row_tree([-entry for entry in chain]))
        self.assertEqual(chain_tree((5,)), ((-5,), ()))
        self.assertEqual(chain_tree((2, 3, 4)), ((-2, -3, -4), ((0, 1), (1, 2))))

    def test_chain_tree_of_great_entries(self):
        for chain in [(61,), (2, 61), (61, 2, 2), (2,) * 15 + (61,), (10 ** 30,), (60,) * 15 + (10 ** 30,)]:
            with self.assertRaises(TooGreat) as caught:
                chain_tree(chain)
            self.assertEqual(caught.exception.limit, 60)
        self.too_many(chain_tree, (2,) * 17)
        self.too_many(chain_tree, (61,) * 17)

    def test_chain_number(self):
        for chain in SHORT + LONG:
            number = chain_number(chain)
            self.assertTrue(in_lowest_terms(number))
            self.assertEqual(fraction(number), plain_number(chain))
            self.assertTrue(number[0] > number[1] >= 1)
            if max(chain) <= 60:
                self.assertEqual(determinant(chain_tree(chain)), number[0])
        self.assertEqual(chain_number((7,)), (7, 1))
        self.assertEqual(chain_number((2, 2, 3)), (7, 5))
        self.assertEqual(chain_number((10 ** 30, 2)), (2 * 10 ** 30 - 1, 2))

    def test_there_and_back(self):
        for chain in SHORT + LONG:
            self.assertEqual(chain_of(chain_number(chain)), chain)
        for n in range(2, 60):
            for q in range(1, n):
                if gcd(n, q) == 1:
                    chain = plain_chain(Fraction(n, q))
                    self.assertGreaterEqual(min(chain), 2)
                    if len(chain) <= 16:
                        self.assertEqual(chain_of((n, q)), chain)
                        self.assertEqual(chain_number(chain), (n, q))
                    else:
                        self.too_many(chain_of, (n, q))

    def test_chain_of_sixteen_and_seventeen_entries(self):
        self.assertEqual(chain_of((17, 16)), (2,) * 16)
        self.too_many(chain_of, (18, 17))
        for last in (2, 3, 10 ** 30):
            for first in (2, 5, 10 ** 40):
                number = plain_number((first,) + (3,) * 14 + (last,))
                self.assertEqual(len(chain_of((number.numerator, number.denominator))), 16)
                number = plain_number((first,) + (3,) * 15 + (last,))
                self.too_many(chain_of, (number.numerator, number.denominator))
        self.too_many(chain_of, (10 ** 60, 10 ** 60 - 1))
        self.too_many(chain_of, (10 ** 60 + 1, 10 ** 60))

    def test_chain_of_whole_numbers(self):
        for number in (2, 3, 60, 61, 10 ** 50):
            self.assertEqual(chain_of((number, 1)), (number,))


class OtherSides(unittest.TestCase):
    def test_other_side(self):
        met = 0
        for chain in SHORT + LONG:
            n, q = chain_number(chain)
            expected = plain_chain(Fraction(n, n - q)) if sum(chain) < 5000 else (2,) * 17
            if len(expected) > 16:
                with self.assertRaises(TooMany) as caught:
                    other_side(chain)
                self.assertEqual(caught.exception.limit, 16)
                continue
            met += 1
            self.assertEqual(other_side(chain), expected)
            self.assertEqual(chain_number(expected), (n, n - q))
            self.assertEqual(other_side(expected), chain)
        self.assertGreater(met, 200)

    def test_known_other_sides(self):
        self.assertEqual(other_side((2,)), (2,))
        self.assertEqual(other_side((7,)), (2,) * 6)
        self.assertEqual(other_side((17,)), (2,) * 16)
        self.assertEqual(other_side((2,) * 16), (17,))
        self.assertRaises(TooMany, other_side, (18,))
        self.assertEqual(other_side((2, 2, 3)), (4, 2))
        self.assertEqual(other_side((2, 10)), (3,) + (2,) * 8)
        self.assertRaises(TooMany, other_side, (10 ** 40,))

    def test_row_of_both_sides_has_the_determinant_nought(self):
        met = 0
        for chain in SHORT + LONG:
            if max(chain) > 17 or sum(entry - 1 for entry in chain) > 16:
                continue
            other = other_side(chain)
            weights = [-entry for entry in chain] + [-1] + [-entry for entry in other[::-1]]
            self.assertEqual(plain_determinant(plain_table(row_tree(weights))), 0)
            if len(weights) <= 16:
                self.assertEqual(determinant(row_tree(weights)), 0)
                met += 1
        self.assertGreater(met, 50)


class ChainLoops(unittest.TestCase):
    def test_chain_loops(self):
        for chain in SHORT + LONG:
            n, q = chain_number(chain)
            back = chain_number(chain[::-1])
            self.assertEqual(back[0], n)
            self.assertEqual(q * back[1] % n, 1)
            self.assertEqual(chain_loops(chain), (n, min(q, back[1])))
            self.assertEqual(chain_loops(chain[::-1]), chain_loops(chain))
        self.assertEqual(chain_loops((2,)), (2, 1))
        self.assertEqual(chain_loops((2, 2, 3)), (7, 3))
        self.assertEqual(chain_loops((3, 2, 2)), (7, 3))
        self.assertEqual(chain_loops((2, 5)), (9, 2))

    def test_chains_are_alike_exactly_if_their_loops_are_equal(self):
        forms = {}
        for chain in SHORT:
            forms.setdefault(chain_loops(chain), set()).add(least_form(chain_tree(chain)))
        self.assertTrue(all(len(told) == 1 for told in forms.values()))
        self.assertEqual(len({min(told) for told in forms.values()}), len(forms))

    def test_tables_of_chains(self):
        for chain in SHORT[:40]:
            self.assertEqual(plain_determinant(exchanged(table(chain_tree(chain)))), chain_number(chain)[0])


if __name__ == "__main__":
    unittest.main()
