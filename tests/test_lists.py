"""[45], [46]: lists of all trees of some places."""

import itertools
import math
import unittest
from fractions import Fraction

from blowntrees.cycles import is_rational
from blowntrees.errors import TooMany
from blowntrees.lists import rational_trees, shapes, trees_between, unimodular_trees
from blowntrees.listings import least_form
from blowntrees.splits import cut_at
from blowntrees.tables import determinant, is_below
from blowntrees.trees import tree_breach
from exact import exchanged, plain_determinant, plain_table
from refusing import Refusing
from samples import EMPTY, all_trees

COUNTS = (1, 1, 1, 1, 2, 3, 6, 11, 23, 47)
# Of each number of places some bounds that are let.
LET = ([(0, -60, 60), (0, 5, 5), (0, -60, -60), (1, -60, 60), (1, 0, 0), (1, 60, 60), (2, -60, -17), (2, -3, 1), (2, 60, 60),
        (3, -12, -1), (3, -2, 2), (3, 49, 60), (4, -5, -1), (4, -2, 2), (4, 59, 60), (5, -3, -1), (5, 0, 2), (5, -4, -4),
        (6, -2, -1), (6, 0, 0), (6, -60, -60), (6, 1, 2)])
# With one weight more or less there would be too many, or there are.
NOT_LET = [(2, -60, -16), (2, -60, 60), (3, -13, -1), (3, 48, 60), (4, -6, -1), (4, -60, 60), (5, -4, -1), (5, 0, 3),
           (6, -3, -1), (6, 0, 2), (6, -60, 60)]


def automorphisms(tree):
    """Return how many listings leave a tree as it is."""
    many = len(tree[0])
    ties = set(tree[1])
    count = 0
    for listing in itertools.permutations(range(many)):
        if all(tree[0][place] == tree[0][at] for at, place in enumerate(listing)):
            count += all((min(listing[i], listing[j]), max(listing[i], listing[j])) in ties for i, j in ties)
    return count


class Shapes(unittest.TestCase):
    def test_as_many_as_told(self):
        self.assertEqual(tuple(len(shapes(n)) for n in range(10)), COUNTS)

    def test_least_forms_ascending(self):
        for n in range(10):
            told = shapes(n)
            self.assertIs(type(told), tuple)
            self.assertEqual(list(told), sorted(set(told)))
            for tree in told:
                self.assertIsNone(tree_breach(tree))
                self.assertEqual(tree[0], (0,) * n)
                self.assertEqual(least_form(tree), tree)

    def test_all_labelled_trees(self):
        for n in range(8):
            self.assertEqual(shapes(n), tuple(sorted({least_form(tree) for tree in all_trees(n, (0,))})))

    def test_known_shapes(self):
        self.assertEqual(shapes(0), (EMPTY,))
        self.assertEqual(shapes(1), (((0,), ()),))
        self.assertEqual(shapes(2), (((0, 0), ((0, 1),)),))
        self.assertEqual(shapes(3), (least_form(((0, 0, 0), ((0, 1), (1, 2)))),))


class Between(Refusing):
    def test_all_labelled_trees(self):
        for n, low, high in LET:
            told = trees_between(n, low, high)
            self.assertIs(type(told), tuple)
            self.assertEqual(list(told), sorted(set(told)))
            if (n ** max(0, n - 2)) * (high - low + 1) ** n <= 20000:
                labelled = all_trees(n, range(low, high + 1))
                self.assertEqual(told, tuple(sorted({least_form(tree) for tree in labelled})))

    def test_least_forms_within_the_bounds(self):
        for n, low, high in LET:
            for tree in trees_between(n, low, high):
                self.assertIsNone(tree_breach(tree))
                self.assertEqual(len(tree[0]), n)
                self.assertTrue(all(low <= weight <= high for weight in tree[0]))
                self.assertEqual(least_form(tree), tree)

    def test_sum_over_listings(self):
        for n, low, high in LET:
            total = sum(Fraction(math.factorial(n), automorphisms(tree)) for tree in trees_between(n, low, high))
            self.assertEqual(total, (n ** (n - 2) if n > 1 else 1) * (high - low + 1) ** n)

    def test_known_trees(self):
        self.assertEqual(trees_between(0, -60, 60), (EMPTY,))
        self.assertEqual(trees_between(1, -2, 1), tuple(((weight,), ()) for weight in (-2, -1, 0, 1)))
        self.assertEqual(len(trees_between(1, -60, 60)), 121)
        self.assertEqual(trees_between(6, 0, 0), shapes(6))
        self.assertEqual(trees_between(2, -2, -1), tuple(((a, b), ((0, 1),)) for a, b in ((-2, -2), (-1, -2), (-1, -1))))
        for n in range(7):
            self.assertEqual(len(trees_between(n, 60, 60)), COUNTS[n])

    def test_too_many(self):
        for n, low, high in LET:
            self.assertLessEqual(COUNTS[n] * (high - low + 1) ** n, 2000)
        for n, low, high in NOT_LET:
            self.assertGreater(COUNTS[n] * (high - low + 1) ** n, 2000)
            self.refused(TooMany, {"limit": 2000}, trees_between, n, low, high)
            self.refused(TooMany, {"limit": 2000}, unimodular_trees, n, low, high)
            self.refused(TooMany, {"limit": 2000}, rational_trees, n, low - high - 2)


class Rational(unittest.TestCase):
    def test_among_all_trees(self):
        left_out = 0
        for n, low in [(0, -60), (0, -2), (1, -60), (1, -2), (2, -45), (2, -2), (3, -13), (3, -4), (4, -6), (5, -4), (6, -3),
                       (6, -2)]:
            if COUNTS[n] * (-1 - low) ** n > 2000:
                self.assertRaises(TooMany, rational_trees, n, low)
                continue
            told = rational_trees(n, low)
            self.assertIs(type(told), tuple)
            among = trees_between(n, low, -2)
            self.assertEqual(told, tuple(tree for tree in among if is_below(tree) and is_rational(tree)))
            left_out += len(among) - len(told)
        self.assertGreater(left_out, 0)
        self.assertEqual(rational_trees(0, -2), (EMPTY,))
        self.assertEqual(len(rational_trees(1, -60)), 59)

    def test_weights_made_less_and_cuts(self):
        for n, low in [(2, -6), (3, -5), (4, -4), (5, -3), (6, -2)]:
            for tree in rational_trees(n, low):
                for place in range(n):
                    weights = tree[0][:place] + (tree[0][place] - 1,) + tree[0][place + 1:]
                    self.assertTrue(is_rational((weights, tree[1])))
                for tie in tree[1]:
                    one, _, other, _ = cut_at(tree, tie)
                    self.assertTrue(is_rational(one) and is_rational(other))

    def test_none_has_the_determinant_one(self):
        for n, low in [(0, -5), (1, -60), (2, -20), (3, -10), (4, -5), (5, -4), (6, -2)]:
            for tree in rational_trees(n, low):
                self.assertEqual(determinant(tree) == 1, tree == EMPTY)


class Unimodular(unittest.TestCase):
    def test_among_all_trees(self):
        signs = set()
        for n, low, high in LET:
            told = unimodular_trees(n, low, high)
            self.assertIs(type(told), tuple)
            kept = []
            for tree in trees_between(n, low, high):
                whole = plain_determinant(exchanged(plain_table(tree)))
                if whole in (1, -1):
                    kept.append(tree)
                    signs.add(whole)
            self.assertEqual(told, tuple(kept))
        self.assertEqual(signs, {1, -1})

    def test_known_trees(self):
        self.assertEqual(unimodular_trees(0, -60, 60), (EMPTY,))
        self.assertEqual(unimodular_trees(1, -60, 60), (((-1,), ()), ((1,), ())))
        self.assertEqual(unimodular_trees(1, 2, 60), ())
        self.assertEqual(unimodular_trees(2, 0, 0), (((0, 0), ((0, 1),)),))


if __name__ == "__main__":
    unittest.main()
