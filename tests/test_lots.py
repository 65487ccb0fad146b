"""[33] and [34]: right lots, their numbers, and middle heights of roots."""

import itertools
import random
import unittest
from fractions import Fraction

from blowntrees.blowing import blown_down, loose_places, nought_out
from blowntrees.classes import all_classes, class_of, level, lowest
from blowntrees.cycles import is_rational
from blowntrees.errors import TooMany
from blowntrees.heights import is_marked
from blowntrees.loops import all_loops, loop_order
from blowntrees.lots import lot_number, lot_numbers, middle_height, right_lots
from blowntrees.nears import near_places
from blowntrees.roots import root_by_rows, root_of_row
from blowntrees.tables import determinant, product, row_of
from belows import BASES, SEVEN, SMALL_BELOW, SOME_BELOW, blown, box_size, same_pairs, shuffled, some_belows, up_moves
from exact import fraction, plain_signs, plain_table, times
from refusing import Refusing
from samples import E8, EMPTY, FEW, GREAT, SMALL, all_trees, row_tree, some_trees, star, twigs
from test_roots import RICH

LITTLE = [tree for tree in SMALL + all_trees(4, (-1, 0, 2)) + FEW if len(tree[0]) <= 9]
# Of 16 places, some of them with many right lots.
WIDE = [row_tree((0,) * 16), row_tree((-2,) * 16), star((-1,) * 16), star((0,) + (1,) * 15), twigs((-2,) * 16),
        twigs((-3,) * 16), star((-60,) + (1,) * 7 + (0,) * 8), row_tree((60, -60) * 8), GREAT[0], GREAT[31], GREAT[60]]
LEAF = (0, ())
ONE = (1, (LEAF, LEAF))


def cycle_of(tree, lot):
    return tuple(int(place in lot) for place in range(len(tree[0])))


def plain_right_lots(tree):
    """Return all right lots, found among all lots."""
    masks = [sum((entry % 2) << at for at, entry in enumerate(row)) for row in plain_table(tree)]
    found = []
    for lot in range(1 << len(masks)):
        if all((mask & lot).bit_count() % 2 == weight % 2 for mask, weight in zip(masks, tree[0])):
            found.append(tuple(place for place in range(len(masks)) if lot >> place & 1))
    return tuple(sorted(found))


def plain_number(tree, lot):
    rows = plain_table(tree)
    above, _, below = plain_signs(rows)
    x = cycle_of(tree, lot)
    return above - below - sum(a * b for a, b in zip(x, times(rows, x)))


class RightLots(Refusing):
    def test_among_all_lots(self):
        kinds = set()
        for tree in LITTLE + [E8, SEVEN]:
            lots = right_lots(tree)
            self.assertEqual(lots, plain_right_lots(tree))
            kinds.add((len(lots) > 1, determinant(tree) == 0))
        # With the determinant 0 there are at least two.
        self.assertEqual(len(kinds), 3)

    def test_sixteen_places(self):
        for tree in WIDE:
            self.assertEqual(right_lots(tree), plain_right_lots(tree))
        self.assertGreater(max(len(right_lots(tree)) for tree in WIDE), 100)

    def test_ascending_lots_without_neighbours(self):
        for tree in LITTLE + WIDE + GREAT:
            try:
                lots = right_lots(tree)
            except TooMany:
                continue
            self.assertGreater(len(lots), 0)
            self.assertEqual(list(lots), sorted(set(lots)))
            for lot in lots:
                self.assertEqual(list(lot), sorted(set(lot)))
                row = row_of(tree, cycle_of(tree, lot))
                self.assertTrue(all((a - b) % 2 == 0 for a, b in zip(row, tree[0])))
                self.assertFalse(any(i in lot and j in lot for i, j in tree[1]))

    def test_as_many_as_loops_of_the_order_two(self):
        for tree in LITTLE + [tree for tree in WIDE + GREAT if abs(determinant(tree)) < 400]:
            whole = abs(determinant(tree))
            if whole == 0 or whole > 400:
                continue
            double = [loop for loop in all_loops(tree) if loop_order(tree, loop) <= 2]
            self.assertEqual(len(right_lots(tree)), len(double))
            if whole % 2 == 1:
                self.assertEqual(len(double), 1)
        for tree in LITTLE + GREAT:
            if determinant(tree) % 2 == 1:
                self.assertEqual(len(right_lots(tree)), 1)

    def test_too_many(self):
        for leaves in range(1, 16):
            for tree in (star((0,) * (leaves + 1)), star((-60,) + (-2,) * leaves), star((1,) + (4,) * leaves)):
                if leaves <= 9:
                    self.assertEqual(len(right_lots(tree)), 2 ** (leaves - 1))
                else:
                    self.refused(TooMany, {"limit": 400}, right_lots, tree)
                    self.refused(TooMany, {"limit": 400}, lot_numbers, tree)

    def test_known_lots(self):
        for tree, lots in [(EMPTY, ((),)), (((-1,), ()), ((0,),)), (((0,), ()), ((), (0,))), (((60,), ()), ((), (0,))),
                           (row_tree((-2, -2)), ((),)), (row_tree((-1, -1)), ((0,), (1,))), (E8, ((),)),
                           (row_tree((-2, -2, -2)), ((), (0, 2))), (SEVEN, ((1, 2, 3),))]:
            self.assertEqual(right_lots(tree), lots, tree)


class Numbers(Refusing):
    def test_of_any_lots(self):
        chance = random.Random(210)
        for tree in SMALL[::3] + FEW + GREAT:
            for _ in range(3):
                lot = tuple(place for place in range(len(tree[0])) if chance.random() < 0.5)
                self.assertEqual(lot_number(tree, lot), plain_number(tree, lot))
        # All places are above zero here, and the product of the cycle with itself is 990.
        self.assertEqual(lot_number(star((60,) * 16), tuple(range(16))), 16 - 990)
        self.assertEqual(lot_number(row_tree((-2, -2)), (0, 1)), 0)
        self.assertEqual(lot_number(row_tree((-2, -2)), (0,)), 0)
        self.assertEqual(lot_number(row_tree((-2, -2)), ()), -2)
        self.assertEqual(lot_number(EMPTY, ()), 0)

    def test_lot_numbers(self):
        for tree in LITTLE + WIDE:
            told = lot_numbers(tree)
            self.assertEqual(told, tuple(sorted(plain_number(tree, lot) for lot in plain_right_lots(tree))))
        self.assertEqual(lot_numbers(((0,), ())), (0, 0))
        self.assertEqual(lot_numbers(row_tree((-2, -2, -2))), (-3, 1))
        self.assertEqual(lot_numbers(star((-2,) * 4)), (-4, 0, 0, 0))
        self.assertEqual(lot_numbers(E8), (-8,))

    def test_same_trees(self):
        for one, other in same_pairs(211, 120):
            self.assertEqual(lot_numbers(one), lot_numbers(other))

    def test_behind_every_move(self):
        chance = random.Random(212)
        for tree in SMALL + FEW + some_trees(213, 60, range(2, 13), range(-3, 3)):
            if len(tree[0]) > 12:
                continue
            told = lot_numbers(tree)
            self.assertEqual(lot_numbers(shuffled(chance, tree)), told)
            for move in up_moves(tree):
                self.assertEqual(lot_numbers(blown(tree, move)), told)
            for place in loose_places(tree):
                self.assertEqual(lot_numbers(blown_down(tree, place)), told)

    def test_noughts_taken_out(self):
        taken = 0
        for tree in all_trees(3, (-3, -2, 0, 1)) + some_trees(214, 300, range(3, 10), (-3, -1, 0, 0, 2)):
            beside = [sum(place in tie for tie in tree[1]) for place in range(len(tree[0]))]
            for place, many in enumerate(beside):
                if many == 2 and tree[0][place] == 0:
                    self.assertEqual(lot_numbers(nought_out(tree, place)), lot_numbers(tree))
                    taken += 1
        self.assertGreater(taken, 200)

    def test_multiples_of_eight(self):
        found = 0
        for tree in SMALL + FEW + some_trees(215, 1500, range(3, 10), range(-4, 2)):
            if abs(determinant(tree)) == 1:
                number, = lot_numbers(tree)
                self.assertEqual(number % 8, 0)
                found += 1
        self.assertGreater(found, 50)
        self.assertEqual(lot_numbers(E8), (-8,))
        self.assertEqual(lot_numbers(SEVEN), (8,))


class BelowZero(unittest.TestCase):
    def test_levels_of_their_rows(self):
        for tree in SMALL_BELOW + BASES + SOME_BELOW:
            for lot in right_lots(tree):
                row = row_of(tree, cycle_of(tree, lot))
                self.assertIs(is_marked(tree, row), True)
                self.assertEqual(8 * fraction(level(tree, row)), lot_number(tree, lot))

    def test_classes_with_opposite_rows(self):
        for tree in SMALL_BELOW + [tree for tree in BASES + SOME_BELOW if determinant(tree) <= 60]:
            told = [class_of(tree, row_of(tree, cycle_of(tree, lot))) for lot in right_lots(tree)]
            self.assertEqual(len(told), len(set(told)))
            opposite = [k for k in all_classes(tree) if class_of(tree, tuple(-entry for entry in k)) == k]
            self.assertEqual(sorted(told), opposite)

    def test_middle_heights_of_near_trees(self):
        compared = rich = inner = 0
        chosen = some_belows(216, 150, range(3, 8), (-1, -1, -2, -3, -4, -9))
        for tree in SMALL_BELOW[::2] + RICH + BASES + chosen:
            if not near_places(tree) or box_size(tree) > 4000:
                continue
            for lot in right_lots(tree):
                k = row_of(tree, cycle_of(tree, lot))
                root = root_by_rows(tree, k)
                self.assertEqual(Fraction(lot_number(tree, lot), 8), fraction(lowest(tree, k)) + middle_height(root))
                if is_rational(tree):
                    self.assertEqual(root, LEAF)
                rich += root != LEAF
                inner += middle_height(root) < root[0]
                compared += 1
        self.assertGreater(compared, 100)
        self.assertGreater(rich, 10)
        self.assertGreater(inner, 0)


def plain_middle_height(root):
    odd = [inner for inner in set(root[1]) if root[1].count(inner) % 2 == 1]
    return plain_middle_height(odd[0]) if len(odd) == 1 else root[0]


def some_roots(chance, height):
    """Return a root by chance, with equal ones in it often."""
    if height == 0 or chance.random() < 0.2:
        return (height, ())
    roots = []
    while len(roots) < 2 or chance.random() < 0.5:
        roots += [some_roots(chance, chance.randrange(height))] * chance.randint(1, 3)
    return (height, tuple(sorted(roots)))


class MiddleHeights(unittest.TestCase):
    def test_known_roots(self):
        for root, told in [(LEAF, 0), ((5, ()), 5), (ONE, 1), ((2, (LEAF,) * 3), 0), ((3, (LEAF,) * 4), 3),
                           ((3, (LEAF, (2, ()))), 3), ((3, (LEAF, LEAF, (2, ()))), 2), ((7, (LEAF,) * 2 + ((3, ()),) * 2), 7),
                           ((7, (LEAF,) * 3 + ((3, ()),) * 2), 0), ((7, (LEAF,) * 3 + ((3, ()),) * 3), 7),
                           ((4, (LEAF, LEAF, (3, (LEAF, LEAF, LEAF)))), 0), ((4, (LEAF, LEAF, (3, (LEAF, LEAF)))), 3),
                           ((4, (LEAF, (3, (LEAF, LEAF)))), 4), ((4, (ONE, ONE, ONE)), 1), ((9, (ONE, ONE, (2, ()))), 2),
                           ((9, (LEAF, ONE, ONE, (2, ()), (2, ()))), 0), ((9, (LEAF, ONE, (1, ()))), 9)]:
            self.assertEqual(middle_height(root), told, root)

    def test_roots_by_chance(self):
        chance = random.Random(217)
        seen = set()
        for _ in range(600):
            root = some_roots(chance, chance.randint(0, 9))
            self.assertEqual(middle_height(root), plain_middle_height(root))
            seen.add(middle_height(root) == root[0])
        self.assertEqual(seen, {True, False})

    def test_roots_of_rows(self):
        for half in itertools.product(range(4), repeat=4):
            for row in (half + half[::-1], half + half[:-1][::-1]):
                root = root_of_row(row)
                self.assertEqual(middle_height(root), plain_middle_height(root))

    def test_deep_roots(self):
        root = LEAF
        for height in range(1, 5000):
            root = (height, ((0, ()), (0, ()), root)) if height > 1 else ONE
        self.assertEqual(middle_height(root), 1)
        one, other = LEAF, LEAF
        for height in range(1, 5000):
            one, other = (height, (LEAF, one)), (height, (LEAF, other))
        self.assertEqual(middle_height((5000, (LEAF, one, other))), 0)


if __name__ == "__main__":
    unittest.main()
