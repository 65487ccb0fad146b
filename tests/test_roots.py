"""[27] and [28]: roots by rows, their ranks, roots of rows of integers."""

import random
import unittest

from blowntrees.classes import all_classes, class_of, lowest, lowest_rows
from blowntrees.cycles import is_rational
from blowntrees.errors import NotBelow, TooMany
from blowntrees.heights import canonical_row, carried
from blowntrees.nears import near_places, near_root, near_row
from blowntrees.roots import rank_left, root_by_rows, root_of_row
from blowntrees.tables import determinant, row_of
from belows import (BASES, GREAT_BELOW, NOT_BELOW, SEVEN, SMALL_BELOW, box_size, same_pairs, shuffled,
                    some_belows)
from exact import form, fraction, plain_inverse, plain_table
from plain import is_root, plain_parts, plain_rank, plain_root, rows_up_to
from samples import E8, EMPTY, row_tree, star, twigs
from test_classes import JUST, TOO_GREAT
from test_heights import some_cycle

RICH = [SEVEN, star((-1, -9, -9, -9, -9)), star((-1, -3, -4, -5)), star((-1, -4, -4, -4)), star((-1, -3, -3, -4)),
        ((-1, -5, -4, -6, -2), ((0, 1), (0, 2), (0, 4), (3, 4))),
        ((-1, -3, -7, -2, -15), ((0, 1), (0, 2), (0, 3), (3, 4))), star((-2, -3, -3, -3, -3, -3)),
        ((-4, -4, -5, -2, -6, -1), ((0, 5), (1, 2), (1, 3), (3, 5), (4, 5)))]
# There are more than 20000 rows up to the heights of the roots of the first
# ones, and 19296 and 19072 up to those of the others.
CROWDED = [((-3, -4, -10, -1, -2, -7), ((0, 4), (1, 2), (1, 3), (3, 4), (3, 5))),
           ((-7, -3, -3, -10, -5, -1), ((0, 2), (1, 5), (2, 5), (3, 5), (4, 5)))]
FILLED = [((-1, -6, -2, -4, -4, -12), ((0, 1), (0, 2), (0, 3), (2, 4), (3, 5))),
          ((-1, -2, -4, -7, -3, -9), ((0, 1), (0, 2), (0, 3), (1, 4), (3, 5)))]
LEAF = (0, ())


def root_by_all_rows(tree, k, most):
    """Return the root by the document, from the rows up to a level at most."""
    inverse = plain_inverse(plain_table(tree))
    rows = rows_up_to(tree, inverse, k, most, 10 ** 6)
    levels = {row: -(form(inverse, row, row) + len(row)) / 8 for row in rows}
    units = [row_of(tree, [int(at == place) for at in range(len(tree[0]))]) for place in range(len(tree[0]))]

    def beside(row):
        for change in units:
            for sign in (2, -2):
                yield tuple(a + sign * b for a, b in zip(row, change))

    part, = plain_parts(levels, beside)
    return plain_root(part, levels, beside, min(levels.values()))


def rows_up_to_root(tree, k, height, limit):
    inverse = plain_inverse(plain_table(tree))
    return rows_up_to(tree, inverse, k, fraction(lowest(tree, k)) + height, limit)


class ByRows(unittest.TestCase):
    def test_against_all_rows_up_to_a_level(self):
        for tree in SMALL_BELOW + [tree for tree in RICH + BASES if len(tree[0]) < 6 and determinant(tree) <= 40]:
            for k in all_classes(tree)[:3] + (canonical_row(tree),):
                told = root_by_rows(tree, k)
                self.assertTrue(is_root(told), told)
                rise = told[0] + (2 if len(tree[0]) < 4 else 1)
                self.assertEqual(told, root_by_all_rows(tree, k, fraction(lowest(tree, k)) + rise))

    def test_against_near_rows(self):
        compared = 0
        chosen = some_belows(140, 120, range(3, 9), (-1, -1, -2, -2, -3, -4, -7))
        for tree in RICH + BASES + chosen:
            near = near_places(tree)
            if not near or box_size(tree) > 20000:
                continue
            told = near_root(tree, near[0])
            self.assertEqual(root_by_rows(tree, canonical_row(tree)), told)
            compared += told != LEAF
        self.assertGreater(compared, 15)

    def test_rational_trees(self):
        for tree in SMALL_BELOW + [tree for tree in BASES if box_size(tree) <= 700]:
            if is_rational(tree):
                for k in all_classes(tree)[:5]:
                    self.assertEqual(root_by_rows(tree, k), LEAF)

    def test_one_lowest_row_and_many(self):
        for tree, k, many in [(((-2,), ()), (0,), 1), (((-2,), ()), (2,), 2), (EMPTY, (), 1), (((-1,), ()), (1,), 2),
                              (E8, (0,) * 8, 1)]:
            self.assertEqual(len(lowest_rows(tree, k)), many)
            self.assertEqual(root_by_rows(tree, k), LEAF)
        self.assertEqual(root_by_rows(SEVEN, canonical_row(SEVEN)), (1, (LEAF, LEAF)))
        self.assertGreater(len(lowest_rows(SEVEN, canonical_row(SEVEN))), 2)

    def test_known_roots(self):
        for tree, told in [(star((-1, -9, -9, -9, -9)), (3, (LEAF, (2, ())))), (SEVEN, (1, (LEAF, LEAF))),
                           (star((-1, -3, -3, -4)), (1, (LEAF, LEAF))), (row_tree((-5, -3, -7)), LEAF)]:
            self.assertEqual(root_by_rows(tree, canonical_row(tree)), told)

    def test_any_row_of_the_class(self):
        chance = random.Random(141)
        for tree in RICH + [E8]:
            told = root_by_rows(tree, canonical_row(tree))
            for bound in (1, 10 ** 30):
                k = carried(tree, canonical_row(tree), some_cycle(chance, tree, bound))
                self.assertEqual(root_by_rows(tree, k), told)
            self.assertEqual(root_by_rows(tree, tuple(-entry for entry in canonical_row(tree))), told)

    def test_same_trees_class_by_class(self):
        chance = random.Random(142)
        pairs = same_pairs(143, 60, 8) + [(tree, shuffled(chance, tree)) for tree in RICH if determinant(tree) <= 100]
        compared = 0
        for one, other in pairs:
            if max(box_size(one), box_size(other)) > 5000 or determinant(one) > 20:
                continue
            told = sorted((fraction(lowest(one, k)), root_by_rows(one, k)) for k in all_classes(one))
            self.assertEqual(told, sorted((fraction(lowest(other, k)), root_by_rows(other, k))
                                          for k in all_classes(other)))
            self.assertEqual(root_by_rows(one, canonical_row(one)), root_by_rows(other, canonical_row(other)))
            compared += 1
        self.assertGreater(compared, 20)

    def test_opposite_classes_have_the_same_root(self):
        for tree in [tree for tree in SMALL_BELOW + RICH if determinant(tree) <= 60]:
            for k in all_classes(tree):
                other = class_of(tree, tuple(-entry for entry in k))
                self.assertEqual(root_by_rows(tree, other), root_by_rows(tree, k))

    def test_product_of_twenty_thousand(self):
        for tree in JUST[:2]:
            self.assertTrue(is_root(root_by_rows(tree, canonical_row(tree))))
        for tree in TOO_GREAT + GREAT_BELOW + [twigs((-3,) * 16)]:
            self.refused(tree)

    def refused(self, tree):
        with self.assertRaises(TooMany) as caught:
            root_by_rows(tree, canonical_row(tree))
        self.assertEqual(caught.exception.limit, 20000)

    def test_more_than_twenty_thousand_rows(self):
        for tree in CROWDED:
            self.assertLessEqual(box_size(tree), 20000)
            # More entries of the row would not make the greatest height less.
            height = root_of_row(near_row(tree, near_places(tree)[0], 500))[0]
            self.assertGreater(len(rows_up_to_root(tree, canonical_row(tree), height, 20000)), 20000)
            self.refused(tree)

    def test_up_to_twenty_thousand_rows(self):
        for tree in FILLED:
            k = canonical_row(tree)
            told = root_by_rows(tree, k)
            self.assertEqual(told, near_root(tree, near_places(tree)[0]))
            self.assertIn(len(rows_up_to_root(tree, k, told[0], 20000)), (19296, 19072))

    def test_not_below(self):
        for tree in NOT_BELOW + [star((-1,) * 16), star((-60,) + (0,) * 15)]:
            self.assertRaises(NotBelow, root_by_rows, tree, tree[0])


class Ranks(unittest.TestCase):
    def test_known_ranks(self):
        for root, rank in [(LEAF, 0), ((1, (LEAF, LEAF)), 1), ((3, (LEAF, (2, ()))), 1), ((5, (LEAF, LEAF, (1, ()))), 9),
                           ((3, ((1, (LEAF, LEAF)), (2, ()))), 2), ((10 ** 30, (LEAF, LEAF)), 10 ** 30),
                           ((9, ((2, (LEAF, LEAF, LEAF)), (4, ((1, ()), (3, ()))))), 3 * 2 + 7 + 3 + 1 + 5 - 9)]:
            self.assertEqual(rank_left(root), rank, root)

    def test_against_all_heights(self):
        chance = random.Random(144)
        for _ in range(300):
            row = tuple(chance.randint(0, 9) for _ in range(chance.randint(1, 40)))
            root = root_of_row(row)
            self.assertEqual(rank_left(root), plain_rank(root))

    def test_deep_roots(self):
        root = LEAF
        for height in range(1, 251):
            root = (height, tuple(sorted((root, LEAF))))
        self.assertEqual(rank_left(root), sum(range(1, 251)))


class OfRows(unittest.TestCase):
    def plain(self, row):
        levels = dict(enumerate(row))
        beside = {place: (place - 1, place + 1) for place in levels}.get
        return plain_root(list(levels), levels, beside, min(row))

    def test_by_the_words(self):
        chance = random.Random(145)
        for _ in range(300):
            most = chance.choice((1, 2, 5, 30))
            row = tuple(chance.randint(-most, most) for _ in range(chance.randint(1, 25)))
            told = root_of_row(row)
            self.assertTrue(is_root(told))
            self.assertEqual(told, self.plain(row))
            self.assertEqual(root_of_row(row[::-1]), told)
            self.assertEqual(root_of_row(tuple(entry + 10 ** 40 for entry in row)), told)

    def test_known_rows(self):
        for row, told in [((5,), LEAF), ((0,), LEAF), ((-10 ** 40,), LEAF), ((3,) * 500, LEAF), ((1, 2, 3), LEAF),
                          ((3, 2, 1), LEAF), (tuple(range(-250, 250)), LEAF), (tuple(range(250, -250, -1)), LEAF),
                          ((2, 0, 2), LEAF), ((0, 2, 0), (2, (LEAF, LEAF))), ((0, 0), LEAF),
                          ((0, 1, 1, 0), (1, (LEAF, LEAF))), ((0, 3, 1), (3, (LEAF, (1, ())))),
                          ((-5, -2, -4, -2, -5), (3, (LEAF, LEAF, (1, ())))),
                          ((0, 5, 0, 2, 1), (5, (LEAF, (2, (LEAF, (1, ())))))),
                          ((1, 2, 1, 3, 0), (3, (LEAF, (2, ((1, ()), (1, ())))))),
                          ((0, 1, 0, 1, 0, 1, 0), (1, (LEAF,) * 4)), ((0, 10 ** 30, 0), (10 ** 30, (LEAF, LEAF)))]:
            self.assertEqual(root_of_row(row), told, row)
            self.assertEqual(root_of_row(row[::-1]), told, row)

    def test_five_hundred_entries(self):
        teeth = (0, 1) * 250
        self.assertEqual(root_of_row(teeth), (1, (LEAF,) * 250))
        deep = []
        for height in range(250):
            deep += [height, 0]
        root = root_of_row(tuple(deep))
        self.assertEqual(rank_left(root), sum(range(250)))
        depth = 0
        while root[1]:
            root = root[1][-1]
            depth += 1
        self.assertEqual(depth, 249)
        chance = random.Random(146)
        for most in (1, 3, 100, 10 ** 9):
            row = tuple(chance.randint(0, most) for _ in range(500))
            self.assertEqual(root_of_row(row), root_of_row(row[::-1]))
            self.assertTrue(is_root(root_of_row(row)))


if __name__ == "__main__":
    unittest.main()
