"""[6], [7], [9]: tables, determinants, signs, folds, cycles."""

import random
import unittest

from blowntrees.listings import listed
from blowntrees.tables import (determinant, folds, is_below, not_below, product, row_of, signs,
                               table)
from blowntrees.trees import path
from exact import exchanged, fraction, in_lowest_terms, plain_determinant, plain_signs, plain_table, times
from samples import (E8, EMPTY, FEW, GREAT, NAMED, SMALL, TREES, all_trees, row_tree, some_listing, star,
                     twigs)

MANY = TREES + all_trees(4, (-1, 0, 1))


def some_cycle(chance, many, most):
    return tuple(chance.randint(-most, most) for _ in range(many))


def behind(tree, root, place):
    """Return the places whose path to the root goes through a place."""
    return [other for other in range(len(tree[0])) if place in path(tree, other, root)]


class Tables(unittest.TestCase):
    def test_table(self):
        for tree in TREES:
            self.assertEqual([list(row) for row in table(tree)], plain_table(tree))
            self.assertTrue(all(type(row) is tuple for row in table(tree)))
        self.assertEqual(table(EMPTY), ())
        self.assertEqual(table(((7,), ())), ((7,),))
        self.assertEqual(table(row_tree((3, 4, 5))), ((3, 1, 0), (1, 4, 1), (0, 1, 5)))

    def test_determinant(self):
        for tree in MANY:
            self.assertEqual(determinant(tree), plain_determinant(exchanged(plain_table(tree))))

    def test_known_determinants(self):
        for tree, number in [(EMPTY, 1), (((-1,), ()), 1), (((0,), ()), 0), (((1,), ()), -1), (E8, 1),
                             (row_tree((-2,) * 16), 17), (star((-2, -2, -2, -2)), 4), (row_tree((-1, -1)), 0),
                             (star((-2,) * 5), 0), (row_tree((0, 0)), -1), (star((-60,) + (0,) * 15), 0),
                             (row_tree((1, 2, 3)), -2), (row_tree((0,) * 16), 1), (row_tree((0,) * 15), 0)]:
            self.assertEqual(determinant(tree), number, tree)

    def test_signs(self):
        for tree in MANY:
            told = signs(tree)
            self.assertEqual(told, plain_signs(plain_table(tree)))
            self.assertEqual(sum(told), len(tree[0]))
            self.assertEqual(told[1] > 0, determinant(tree) == 0)
            self.assertTrue(all(type(number) is int for number in told))

    def test_known_signs(self):
        for tree, told in [(EMPTY, (0, 0, 0)), (((-1,), ()), (0, 0, 1)), (((0,), ()), (0, 1, 0)),
                           (((1,), ()), (1, 0, 0)), (E8, (0, 0, 8)), (row_tree((0, 0)), (1, 0, 1)),
                           (row_tree((0,) * 15), (7, 1, 7)), (row_tree((0,) * 16), (8, 0, 8)),
                           (star((0,) * 16), (1, 14, 1)), (star((-60,) + (0,) * 15), (1, 14, 1)),
                           (star((60,) * 16), (16, 0, 0)), (star((-4,) + (-2,) * 7), (0, 0, 8)),
                           (star((-4,) + (-2,) * 8), (0, 1, 8)), (row_tree((-1, -1)), (0, 1, 1)),
                           (row_tree((-1, -1, 0)), (1, 0, 2)), (row_tree((0, 5, -1, -1)), (1, 1, 2))]:
            self.assertEqual(signs(tree), told, tree)

    def test_is_below(self):
        for tree in MANY:
            self.assertIs(is_below(tree), plain_signs(plain_table(tree))[:2] == (0, 0))
        self.assertIs(is_below(EMPTY), True)
        self.assertIs(is_below(((0,), ())), False)
        self.assertIs(is_below(star((-4,) + (-2,) * 8)), False)
        self.assertIs(is_below(E8), True)

    def test_trees_listed_otherwise(self):
        chance = random.Random(20)
        for tree in FEW + GREAT + SMALL[::5]:
            other = listed(tree, some_listing(chance, len(tree[0])))
            self.assertEqual(determinant(other), determinant(tree))
            self.assertEqual(signs(other), signs(tree))
            self.assertEqual(is_below(other), is_below(tree))


class Folds(unittest.TestCase):
    def all_folds(self, trees):
        for tree in trees:
            for root in range(len(tree[0])):
                yield tree, root, folds(tree, root)

    def test_numbers_are_determinants_of_what_lies_behind(self):
        # A number is minus the determinant behind and at a place, divided by that without the place.
        for tree, root, told in self.all_folds(SMALL + NAMED + GREAT[::6]):
            rows = exchanged(plain_table(tree))
            for place, number in enumerate(told):
                if number is None:
                    continue
                self.assertTrue(in_lowest_terms(number), number)
                there = behind(tree, root, place)
                whole = [[rows[i][j] for j in there] for i in there]
                bare = [[rows[i][j] for j in there if j != place] for i in there if i != place]
                self.assertEqual(fraction(number) * plain_determinant(bare), -plain_determinant(whole))

    def test_each_number_is_the_weight_less_those_behind(self):
        for tree, root, told in self.all_folds(FEW + GREAT + SMALL):
            self.assertEqual(len(told), len(tree[0]))
            for place in range(len(tree[0])):
                near = [other for other in behind(tree, root, place)
                        if (min(place, other), max(place, other)) in tree[1]]
                numbers = [told[other] for other in near]
                if None in numbers or (0, 1) in numbers:
                    self.assertIsNone(told[place])
                else:
                    total = tree[0][place] - sum(1 / fraction(number) for number in numbers)
                    self.assertEqual(fraction(told[place]), total)

    def test_none_stands_nearer_to_the_root_than_a_nought(self):
        met = 0
        for tree, root, told in self.all_folds(SMALL + NAMED + GREAT):
            noughts = [place for place, number in enumerate(told) if number == (0, 1)]
            nearer = {place for nought in noughts for place in path(tree, nought, root)[1:]}
            self.assertEqual({place for place, number in enumerate(told) if number is None}, nearer)
            met += bool(nearer)
        self.assertGreater(met, 100)

    def test_signs_count_the_numbers(self):
        for tree, root, told in self.all_folds(FEW + GREAT + SMALL):
            if None not in told:
                worths = [number[0] for number in told]
                counts = (sum(n > 0 for n in worths), sum(n == 0 for n in worths), sum(n < 0 for n in worths))
                self.assertEqual(signs(tree), counts)
            below = all(number is not None and number[0] < 0 for number in told)
            self.assertEqual(below, is_below(tree))

    def test_known_folds(self):
        self.assertEqual(folds(((0,), ()), 0), ((0, 1),))
        self.assertEqual(folds(((-5,), ()), 0), ((-5, 1),))
        self.assertEqual(folds(row_tree((-2, -2, -2)), 0), ((-4, 3), (-3, 2), (-2, 1)))
        self.assertEqual(folds(row_tree((-2, -2, -2)), 1), ((-2, 1), (-1, 1), (-2, 1)))
        self.assertEqual(folds(row_tree((4, 5, 0)), 0), (None, None, (0, 1)))
        self.assertEqual(folds(row_tree((4, 5, 0)), 2), ((4, 1), (19, 4), (-4, 19)))
        self.assertEqual(folds(star((7, 0, -1, 2)), 0), (None, (0, 1), (-1, 1), (2, 1)))
        self.assertEqual(folds(star((7, 0, -1, 2)), 3), (None, (0, 1), (-1, 1), None))
        self.assertEqual(folds(row_tree((3, -1, -1)), 0), (None, (0, 1), (-1, 1)))


class Cycles(unittest.TestCase):
    def test_row_of_and_product(self):
        chance = random.Random(21)
        for tree in TREES:
            rows = plain_table(tree)
            for most in (1, 100, 10 ** 40):
                one = some_cycle(chance, len(tree[0]), most)
                other = some_cycle(chance, len(tree[0]), most)
                self.assertEqual(row_of(tree, one), times(rows, one))
                self.assertEqual(product(tree, one, other), sum(a * b for a, b in zip(one, times(rows, other))))
                self.assertEqual(product(tree, other, one), product(tree, one, other))

    def test_known_rows_and_products(self):
        self.assertEqual((row_of(EMPTY, ()), product(EMPTY, (), ())), ((), 0))
        self.assertEqual(row_of(row_tree((-2, -3)), (5, 7)), (-3, -16))
        self.assertEqual(product(row_tree((-2, -3)), (1, 0), (5, 7)), -3)
        self.assertEqual(product(row_tree((-2, -3)), (10 ** 30, -1), (5, 7)), -3 * 10 ** 30 + 16)

    def test_not_below(self):
        found = 0
        for tree in MANY:
            cycle = not_below(tree)
            self.assertEqual(cycle is None, plain_signs(plain_table(tree))[:2] == (0, 0))
            if cycle is None:
                continue
            found += 1
            self.assertIs(type(cycle), tuple)
            self.assertEqual([type(entry) for entry in cycle], [int] * len(tree[0]))
            self.assertTrue(any(cycle))
            self.assertGreaterEqual(sum(a * b for a, b in zip(cycle, times(plain_table(tree), cycle))), 0)
        self.assertGreater(found, 100)

    def test_not_below_where_the_determinant_is_nought(self):
        for tree in (((0,), ()), row_tree((-1, -1)), star((-4,) + (-2,) * 8), row_tree((0,) * 15),
                     star((-15,) + (-1,) * 15), star((-2,) * 5), twigs((0,) * 15)):
            self.assertEqual(determinant(tree), 0)
            cycle = not_below(tree)
            self.assertTrue(any(cycle))
            self.assertGreaterEqual(product(tree, cycle, cycle), 0)
        for tree in (EMPTY, E8, ((-1,), ()), star((-4,) + (-2,) * 7), row_tree((-2,) * 16)):
            self.assertIsNone(not_below(tree))


if __name__ == "__main__":
    unittest.main()
