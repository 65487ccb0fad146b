"""[35], [36], [37]: smooth trees, the values of their places, meetings."""

import functools
import itertools
import random
import unittest

from blowntrees.blowing import blown_at, blown_on
from blowntrees.branches import branch_row, gaps, is_smooth, meeting, turn_point, value_row, values
from blowntrees.classes import lowest
from blowntrees.cycles import above
from blowntrees.errors import NotSmooth, TooMany
from blowntrees.heights import canonical_row
from blowntrees.inverses import inverse
from blowntrees.listings import listed
from blowntrees.nears import near_places, near_root, near_row
from blowntrees.roots import rank_left
from blowntrees.tables import determinant, is_below
from belows import BELOW, NOT_BELOW, SEVEN, blown_up, box_size, brought_down, shuffled
from exact import plain_inverse, plain_table
from plain import plain_height
from refusing import Refusing
from samples import E8, EMPTY, FEW, GREAT, SMALL, all_trees, row_tree, some_listing, star, twigs


def some_smooth(seed, count, manys):
    chance = random.Random(seed)
    return [shuffled(chance, blown_up(chance, EMPTY, chance.choice(manys))) for _ in range(count)]


POINT = ((-1,), ())
CUSP = row_tree((-2, -1, -3))
LITTLE = [POINT, row_tree((-1, -2)), row_tree((-2, -1)), CUSP, row_tree((-2, -2, -1)), star((-1, -2, -3)),
          ((-2, -4, -2, -1), ((0, 2), (1, 3), (2, 3)))] + some_smooth(220, 60, range(2, 9))
FAR = blown_up(random.Random(221), EMPTY, 16)
# Each place but the first two ones is blown on the tie of the last two.
FIBONACCI = POINT
for _last in range(1, 16):
    FIBONACCI = blown_on(FIBONACCI, (_last - 2, _last - 1)) if _last > 1 else blown_at(FIBONACCI, 0)
BIG = some_smooth(222, 40, range(9, 17)) + [row_tree((-2,) * 15 + (-1,)), star((-16,) + (-1,) * 15), FAR, FIBONACCI]
SMOOTH = LITTLE + BIG
# With the turn points 2000, 2000, 2002, 2004 at the last places.
JUST = [((-6, -2, -2, -2, -11, -2, -2, -2, -2, -2, -2, -2, -2, -2, -1),
         ((0, 5), (1, 2), (2, 3), (3, 4), (4, 14), (5, 6), (6, 7), (7, 8), (8, 9), (9, 10), (10, 11), (11, 12),
          (12, 13), (13, 14))),
        ((-3, -3, -3, -3, -4, -2, -2, -2, -2, -3, -2, -1),
         ((0, 2), (1, 3), (2, 4), (3, 5), (4, 7), (5, 6), (6, 7), (7, 8), (8, 9), (9, 11), (10, 11)))]
OVER = [((-3, -3, -3, -3, -4, -2, -2, -2, -2, -2, -3, -2, -1),
         ((0, 2), (1, 3), (2, 4), (3, 5), (4, 7), (5, 6), (6, 7), (7, 8), (8, 9), (9, 10), (10, 12), (11, 12))),
        ((-3, -2, -4, -2, -2, -2, -3, -2, -4, -2, -2, -1),
         ((0, 2), (1, 2), (2, 5), (3, 4), (4, 5), (5, 6), (6, 8), (7, 8), (8, 11), (9, 10), (10, 11)))]
ROUGH = ([EMPTY, E8, SEVEN, ((0,), ()), ((1,), ()), ((-2,), ()), row_tree((-1, -1)), row_tree((-1, -3)), star((-1,) * 4),
          row_tree((-2,) * 16), row_tree((0, 0)), row_tree((-2, -1, -2)), row_tree((-2, -1, -3, -1)), row_tree((1, 2)),
          star((-1, -2, -2, -3)), twigs((-60,) * 16)] + NOT_BELOW)


def neighbours_of(tree, place):
    return sum(place in tie for tie in tree[1])


@functools.lru_cache(None)
def plain_rows(tree):
    return [tuple(-entry for entry in row) for row in plain_inverse(plain_table(tree))]


def plain_branch_row(tree, place):
    return plain_rows(tree)[place]


def plain_values(tree, place, most):
    """Return all sums up to some integer of entries at leaves, by adding them."""
    row = plain_branch_row(tree, place)
    parts = {int(row[leaf]) for leaf in range(len(row)) if neighbours_of(tree, leaf) <= 1}
    told, left = {0}, [0]
    while left:
        one = left.pop()
        for other in {one + part for part in parts if one + part <= most} - told:
            told.add(other)
            left.append(other)
    return tuple(sorted(told))


def plain_turn_point(tree, place):
    row = plain_branch_row(tree, place)
    return 1 + sum((neighbours_of(tree, u) + (u == place) - 2) * row[u] for u in range(len(row)))


def plain_value_row(tree, place, count):
    """Return the coefficients of the product, one factor after another one."""
    row = plain_branch_row(tree, place)
    series = [1] + [0] * (count - 1)
    for u in range(len(row)):
        power = neighbours_of(tree, u) + (u == place) - 2
        factor = [0] * count
        for at in range(0, count, int(row[u])):
            factor[at] = 1 if power < 0 else {0: 1, 1: -1}.get(at // int(row[u]), 0)
        for _ in range(abs(power)):
            series = [sum(series[k] * factor[at - k] for k in range(at + 1)) for at in range(count)]
    return tuple(series)


def chosen_places(tree, most=4):
    """Return some places of a tree, the last one among them."""
    many = len(tree[0])
    return range(many) if many <= most else sorted({0, many // 3, many // 2, many - 1})


class Smooth(Refusing):
    def test_empty_tree(self):
        self.assertIs(is_smooth(EMPTY), False)

    def test_blown_up_in_many_ways(self):
        chance = random.Random(223)
        for tree in SMOOTH + JUST + OVER:
            self.assertIs(is_smooth(tree), True)
            self.assertIs(is_smooth(listed(tree, some_listing(chance, len(tree[0])))), True)
            self.assertEqual(determinant(tree), 1)

    def test_others(self):
        for tree in ROUGH:
            self.assertIs(is_smooth(tree), False)

    def test_all_trees(self):
        chance = random.Random(224)
        kinds = set()
        for tree in SMALL + all_trees(4, (-3, -2, -1)) + BELOW + FEW + GREAT:
            told = bool(tree[0]) and is_below(tree) and brought_down(chance, tree) == EMPTY
            self.assertIs(is_smooth(tree), told)
            kinds.add((told, is_below(tree), determinant(tree) == 1))
        self.assertEqual(kinds, {(True, True, True), (False, True, True), (False, True, False), (False, False, False),
                                 (False, False, True)})

    def test_errors_ahead_of_all_else(self):
        for tree in ROUGH:
            for act, arguments in [(branch_row, (0,)), (values, (0, 2000)), (values, (0, 0)), (gaps, (0,)),
                                   (turn_point, (0,)), (value_row, (0, 1)), (value_row, (0, 2000)), (meeting, (0, 0))]:
                self.refused(NotSmooth, {}, act, tree, *arguments)


class BranchRows(unittest.TestCase):
    def test_branch_row(self):
        for tree in SMOOTH + JUST + OVER:
            for place in range(len(tree[0])):
                row = branch_row(tree, place)
                self.assertEqual(row, plain_branch_row(tree, place))
                self.assertEqual({type(entry) for entry in row}, {int})
                self.assertGreaterEqual(min(row), 1)
        self.assertEqual(branch_row(POINT, 0), (1,))
        self.assertEqual(branch_row(CUSP, 1), (3, 6, 2))
        self.assertGreater(max(branch_row(FIBONACCI, 15)), 10 ** 6)

    def test_meeting(self):
        for tree in SMOOTH:
            told = inverse(tree)
            for u, v in itertools.product(chosen_places(tree, 6), chosen_places(tree)):
                met = meeting(tree, u, v)
                self.assertEqual((-met, 1), told[u][v])
                self.assertEqual(met, meeting(tree, v, u))
                if met <= 300:
                    self.assertEqual(values(tree, u, met)[-1], met)
                    self.assertEqual(values(tree, v, met)[-1], met)
        self.assertEqual([meeting(CUSP, u, v) for u in range(3) for v in range(3)], [2, 3, 1, 3, 6, 2, 1, 2, 1])


class Values(Refusing):
    def test_values(self):
        for tree in SMOOTH:
            for place in chosen_places(tree):
                for most in (0, 1, 2, 7, 100):
                    self.assertEqual(values(tree, place, most), plain_values(tree, place, most))
        for tree in BIG[::6] + [FIBONACCI, FAR]:
            place = len(tree[0]) - 1
            self.assertEqual(values(tree, place, 2000), plain_values(tree, place, 2000))
        self.assertEqual(values(POINT, 0, 5), (0, 1, 2, 3, 4, 5))
        self.assertEqual(values(POINT, 0, 2000), tuple(range(2001)))
        self.assertEqual(values(CUSP, 1, 6), (0, 2, 3, 4, 5, 6))
        self.assertEqual(values(FIBONACCI, 15, 2000), (0, 987, 1597, 1974))

    def test_gaps(self):
        for tree in SMOOTH:
            for place in chosen_places(tree):
                turn = plain_turn_point(tree, place)
                if turn > 2000:
                    self.refused(TooMany, {"limit": 2000}, gaps, tree, place)
                    continue
                told = gaps(tree, place)
                self.assertEqual(sorted(told + plain_values(tree, place, turn + 40)), list(range(int(turn) + 41)))
                self.assertEqual(2 * len(told), turn)
        self.assertEqual(gaps(POINT, 0), ())
        self.assertEqual(gaps(CUSP, 1), (1,))

    def test_just_two_thousand(self):
        for tree in JUST:
            place = len(tree[0]) - 1
            self.assertEqual(turn_point(tree, place), 2000)
            told = gaps(tree, place)
            self.assertEqual((len(told), told[-1]), (1000, 1999))
            self.assertEqual(sorted(told + values(tree, place, 2100)), list(range(2101)))
        self.assertEqual([turn_point(tree, len(tree[0]) - 1) for tree in OVER], [2002, 2004])
        for tree in OVER + [FIBONACCI]:
            self.refused(TooMany, {"limit": 2000}, gaps, tree, len(tree[0]) - 1)

    def test_turn_point(self):
        for tree in SMOOTH + JUST + OVER:
            for place in range(len(tree[0])):
                turn = turn_point(tree, place)
                self.assertEqual(turn, plain_turn_point(tree, place))
                self.assertIs(type(turn), int)
                row = branch_row(tree, place)
                self.assertEqual(turn, 2 * row[place] - 2 * plain_height(tree, canonical_row(tree), row))

    def test_turn_points_against_gaps(self):
        for tree in SMOOTH:
            for place in chosen_places(tree):
                turn = turn_point(tree, place)
                if turn > 1000:
                    continue
                told = set(values(tree, place, turn + 50))
                for s in range(-3, turn + 51):
                    self.assertEqual(s in told, turn - 1 - s not in told and s >= 0)
                self.assertEqual(2 * len([s for s in told if s < turn]), turn)
                self.assertEqual(turn, max(gaps(tree, place), default=-1) + 1)

    def test_value_row(self):
        for tree in SMOOTH:
            for place in chosen_places(tree):
                for count in (1, 2, 3, 40):
                    self.assertEqual(value_row(tree, place, count), plain_value_row(tree, place, count))
                told = set(values(tree, place, 299))
                self.assertEqual(value_row(tree, place, 300), tuple(int(s in told) for s in range(300)))
        for tree in JUST + OVER + [POINT, CUSP, FIBONACCI, FAR]:
            place = len(tree[0]) - 1
            told = set(values(tree, place, 1999))
            whole = value_row(tree, place, 2000)
            self.assertEqual(whole, tuple(int(s in told) for s in range(2000)))
            for count in (1, 2, 999, 1999):
                self.assertEqual(value_row(tree, place, count), whole[:count])

    def test_blown_up_further(self):
        for tree in LITTLE[:30]:
            trees = [blown_at(tree, place) for place in range(len(tree[0]))] + [blown_on(tree, tie) for tie in tree[1]]
            for place in range(len(tree[0])):
                for new in trees:
                    self.assertEqual(values(new, place, 60), values(tree, place, 60))
                    self.assertEqual(turn_point(new, place), turn_point(tree, place))

    def test_above_and_near_rows(self):
        for tree in LITTLE:
            for place in chosen_places(tree):
                if turn_point(tree, place) > 60:
                    continue
                told = values(tree, place, 200)
                row = near_row(tree, place, 40)
                for s in range(30):
                    x = tuple(s if at == place else 0 for at in range(len(tree[0])))
                    self.assertEqual(above(tree, x)[place], min(one for one in told if one >= s))
                    self.assertEqual(row[s] == row[s + 1], s not in told)


class Ends(unittest.TestCase):
    def test_a_place_tied_to_a_place(self):
        compared = rich = 0
        for tree in LITTLE:
            for place in range(len(tree[0])):
                weight = -1 - branch_row(tree, place)[place]
                if weight < -60:
                    continue
                many = len(tree[0])
                new = (tree[0] + (weight,), tuple(sorted(tree[1] + ((place, many),))))
                self.assertTrue(is_below(new))
                self.assertEqual(determinant(new), 1)
                near = near_places(new)
                if not near or box_size(new) > 20000:
                    continue
                told = gaps(tree, place)
                g = len(told)
                rank = rank_left(near_root(new, near[0]))
                least = lowest(new, canonical_row(new))
                self.assertEqual(least[1], 1)
                self.assertEqual(least[0] - rank, g * (g - 1) // 2 - sum(told))
                compared += 1
                rich += g > 1
        self.assertGreater(compared, 50)
        self.assertGreater(rich, 5)


if __name__ == "__main__":
    unittest.main()
