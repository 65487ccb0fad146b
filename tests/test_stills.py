"""[42], [43], [44]: still cycles, their losses, and what they tell of smooth trees."""

import itertools
import random
import unittest

from blowntrees.branches import branch_row
from blowntrees.cycles import above, is_rational, least_cycle
from blowntrees.errors import NotBelow, NotSmooth, TooGreat, TooMany
from blowntrees.heights import canonical_row, height
from blowntrees.listings import listed
from blowntrees.moves import made
from blowntrees.stills import is_still, loss, point_row, pulled_up, shares, still_cycles
from blowntrees.tables import product, row_of
from belows import BASES, GREAT_BELOW, NOT_BELOW, SEVEN, SMALL_BELOW, SOME_BELOW, up_moves
from exact import form, plain_table, times
from plain import plain_height
from refusing import Refusing
from samples import E8, EMPTY, row_tree, some_listing, star, twigs
from test_branches import JUST, LITTLE, POINT, ROUGH, SMOOTH

BELOW = SMALL_BELOW + BASES + SOME_BELOW
BIG = 10 ** 40


def plain_still(tree, x):
    return all(entry >= 0 for entry in x) and all(entry <= 0 for entry in times(plain_table(tree), x))


def plain_stills(tree, most):
    return tuple(x for x in itertools.product(range(most + 1), repeat=len(tree[0])) if plain_still(tree, x))


def added(one, other):
    return tuple(a + b for a, b in zip(one, other))


def times_more(many, x):
    return tuple(many * entry for entry in x)


def some_cycle(chance, tree, most):
    return tuple(chance.randint(-most, most) for _ in tree[0])


def some_stills(chance, tree, many=4):
    """Return still cycles by chance, zeros, small and great ones."""
    found = [(0,) * len(tree[0])]
    while len(found) < many:
        try:
            x = above(tree, tuple(chance.randint(0, 3) for _ in tree[0]))
        except TooMany:
            x = least_cycle(tree)
        found.append(added(x, chance.choice(found)))
    return found + [times_more(BIG, found[-1])]


class IsStill(Refusing):
    def test_small_cycles(self):
        chance = random.Random(250)
        kinds = set()
        for tree in BELOW:
            for _ in range(8):
                for x in (some_cycle(chance, tree, 2), tuple(chance.randint(1, 2) for _ in tree[0])):
                    told = is_still(tree, x)
                    self.assertIs(told, plain_still(tree, x))
                    kinds.add(told)
            self.assertIs(is_still(tree, (0,) * len(tree[0])), True)
            self.assertIs(is_still(tree, least_cycle(tree)), True)
        self.assertEqual(kinds, {True, False})

    def test_great_entries(self):
        chance = random.Random(251)
        for tree in BELOW + GREAT_BELOW:
            if not tree[0]:
                continue
            x = times_more(BIG, least_cycle(tree))
            self.assertIs(is_still(tree, x), True)
            self.assertIs(is_still(tree, times_more(-1, x)), False)
            for _ in range(3):
                y = some_cycle(chance, tree, BIG)
                self.assertIs(is_still(tree, y), plain_still(tree, y))
                y = added(x, some_cycle(chance, tree, BIG // 100))
                self.assertIs(is_still(tree, y), plain_still(tree, y))
        self.assertIs(is_still(E8, (BIG, -BIG) * 4), False)
        # The rows of these two are right or wrong by 1.
        self.assertIs(is_still(row_tree((-1, -2)), (BIG, BIG)), True)
        self.assertIs(is_still(row_tree((-1, -2)), (BIG, BIG + 1)), False)

    def test_sums_and_lesser_entries(self):
        chance = random.Random(252)
        for tree in BELOW:
            found = some_stills(chance, tree)
            for one, other in itertools.combinations(found, 2):
                self.assertIs(is_still(tree, added(one, other)), True)
                self.assertIs(is_still(tree, tuple(map(min, one, other))), True)

    def test_entries_of_still_cycles(self):
        chance = random.Random(253)
        for tree in BELOW:
            least = least_cycle(tree)
            for x in some_stills(chance, tree):
                self.assertTrue(not any(x) or all(a >= b >= 1 for a, b in zip(x, least)))

    def test_not_below(self):
        for tree in NOT_BELOW:
            x = (0,) * len(tree[0])
            for act, arguments in [(is_still, (x,)), (still_cycles, (60,)), (still_cycles, (0,)), (loss, (x,))]:
                self.refused(NotBelow, {}, act, tree, *arguments)
            for move in [("at", 0), ("list", tuple(range(len(x))))] + [("on", *tie) for tie in tree[1][:1]]:
                self.refused(NotBelow, {}, pulled_up, tree, move, x)


class StillCycles(Refusing):
    def test_all_of_them(self):
        counts = set()
        for tree in SMALL_BELOW + [tree for tree in BASES + SOME_BELOW if len(tree[0]) <= 6]:
            for most in (0, 1, 2, 5, 11, 60):
                if (most + 1) ** len(tree[0]) > 2000:
                    self.refused(TooMany, {"limit": 2000}, still_cycles, tree, most)
                    continue
                told = still_cycles(tree, most)
                self.assertEqual(told, plain_stills(tree, most))
                self.assertEqual(list(told), sorted(told))
                self.assertIn((0,) * len(tree[0]), told)
                counts.add(len(told))
        self.assertGreater(len(counts), 10)

    def test_known_cycles(self):
        self.assertEqual(still_cycles(EMPTY, 0), ((),))
        self.assertEqual(still_cycles(EMPTY, 60), ((),))
        self.assertEqual(still_cycles(POINT, 3), ((0,), (1,), (2,), (3,)))
        self.assertEqual(still_cycles(row_tree((-2, -2)), 2), ((0, 0), (1, 1), (1, 2), (2, 1), (2, 2)))
        self.assertEqual(still_cycles(row_tree((-1, -2)), 2), ((0, 0), (1, 1), (2, 1), (2, 2)))
        self.assertEqual(still_cycles(E8, 1), ((0,) * 8,))
        self.assertEqual(still_cycles(row_tree((-2,) * 16), 0), ((0,) * 16,))

    def test_too_many(self):
        # 44 ** 2, 12 ** 3, 6 ** 4, 4 ** 5, 3 ** 6, 2 ** 10 are at most 2000, and with 1 more they are not.
        for many, most in [(2, 43), (3, 11), (4, 5), (5, 3), (6, 2), (10, 1), (16, 0)]:
            tree = row_tree((-2,) * many)
            self.assertLessEqual((most + 1) ** many, 2000)
            self.assertEqual(still_cycles(tree, most), plain_stills(tree, most))
            if most + 2 > 2:
                self.refused(TooMany, {"limit": 2000}, still_cycles, tree, most + 1)
        self.refused(TooMany, {"limit": 2000}, still_cycles, row_tree((-2,) * 11), 1)
        self.refused(TooMany, {"limit": 2000}, still_cycles, twigs((-3,) * 16), 60)
        self.assertEqual(len(still_cycles(((-60,), ()), 60)), 61)


class Losses(unittest.TestCase):
    def test_loss(self):
        chance = random.Random(254)
        for tree in BELOW + GREAT_BELOW:
            for x in some_stills(chance, tree):
                told = loss(tree, x)
                self.assertIs(type(told), int)
                self.assertEqual(told, plain_height(tree, canonical_row(tree), x))
                if is_rational(tree):
                    self.assertGreaterEqual(told, 0)
                    self.assertEqual(told == 0, not any(x))
        self.assertEqual(loss(EMPTY, ()), 0)
        self.assertEqual(loss(SEVEN, (6, 3, 2, 1)), 0)
        self.assertEqual([loss(POINT, (m,)) for m in range(6)], [0, 1, 3, 6, 10, 15])

    def test_loss_of_a_sum(self):
        chance = random.Random(255)
        for tree in BELOW:
            for one, other in itertools.combinations(some_stills(chance, tree), 2):
                both = loss(tree, one) + loss(tree, other) - product(tree, one, other)
                self.assertEqual(loss(tree, added(one, other)), both)


class PulledUp(Refusing):
    def moves_of(self, chance, tree):
        lists = [("list", some_listing(chance, len(tree[0])))]
        return lists + ([move for move in up_moves(tree) if move[0] != "new"] if len(tree[0]) < 16 else [])

    def test_rows_losses_and_products(self):
        chance = random.Random(256)
        for tree in BELOW:
            found = some_stills(chance, tree, 3)
            for move in self.moves_of(chance, tree):
                new = made(tree, move)
                pulled = [pulled_up(tree, move, x) for x in found]
                for x, y in zip(found, pulled):
                    row = row_of(tree, x)
                    expected = listed((row, ()), move[1])[0] if move[0] == "list" else row + (0,)
                    self.assertEqual(tuple(times(plain_table(new), y)), expected)
                    self.assertIs(is_still(new, y), True)
                    self.assertEqual(loss(new, y), loss(tree, x))
                    self.assertEqual(product(new, y, pulled[-1]), product(tree, x, found[-1]))

    def test_entries(self):
        tree = row_tree((-2, -3, -4))
        self.assertEqual(pulled_up(tree, ("at", 1), (5, 6, 7)), (5, 6, 7, 6))
        self.assertEqual(pulled_up(tree, ("on", 1, 2), (5, 6, 7)), (5, 6, 7, 13))
        self.assertEqual(pulled_up(tree, ("list", (2, 0, 1)), (5, 6, 7)), (7, 5, 6))
        self.assertEqual(pulled_up(EMPTY, ("list", ()), ()), ())

    def test_errors(self):
        full = row_tree((-2,) * 16)
        x = least_cycle(full)
        for move in [("at", 3), ("on", 3, 4)]:
            self.refused(TooMany, {"limit": 16}, pulled_up, full, move, x)
        self.assertEqual(pulled_up(full, ("list", tuple(range(16))[::-1]), x), x[::-1])
        great = row_tree((-60, -3, -60))
        for move in [("at", 0), ("at", 2), ("on", 0, 1), ("on", 1, 2)]:
            self.refused(TooGreat, {"limit": 60}, pulled_up, great, move, (1, 1, 1))
        self.assertEqual(pulled_up(great, ("at", 1), (1, 2, 1)), (1, 2, 1, 2))
        both = twigs((-60,) * 16)
        self.refused(TooMany, {"limit": 16}, pulled_up, both, ("at", 0), (1,) * 16)
        # Not below zero, though the move would raise an error.
        self.refused(NotBelow, {}, pulled_up, star((-4,) + (-2,) * 15), ("at", 0), (0,) * 16)
        self.refused(NotBelow, {}, pulled_up, row_tree((-60, 1)), ("on", 0, 1), (0,) * 2)


def plain_point_row(chance, tree, x):
    """Return the numbers, written as loose places are blown down by chance."""
    weights = dict(enumerate(tree[0]))
    near = {place: {i + j - place for i, j in tree[1] if place in (i, j)} for place in weights}
    points = []
    while weights:
        place = chance.choice([place for place in weights if weights[place] == -1 and len(near[place]) <= 2])
        points.append(x[place] - sum(x[other] for other in near[place]))
        for other in near[place]:
            weights[other] += 1
            near[other] = near[other] - {place} | near[place] - {other}
        del weights[place], near[place]
    return points


class Last:
    """Chooses the greatest place each time."""

    def choice(self, places):
        return max(places)


class Shares(Refusing):
    def test_shares_of_sums(self):
        chance = random.Random(257)
        for tree in SMOOTH:
            rows = [branch_row(tree, place) for place in range(len(tree[0]))]
            for most in (1, 5, BIG):
                told = tuple(chance.randint(0, most) for _ in rows)
                x = (0,) * len(rows)
                for many, row in zip(told, rows):
                    x = added(x, times_more(many, row))
                self.assertIs(is_still(tree, x), True)
                self.assertEqual(shares(tree, x), told)
            for place, row in enumerate(rows):
                self.assertEqual(shares(tree, row), tuple(int(at == place) for at in range(len(rows))))

    def test_still_cycles_are_sums(self):
        for tree in LITTLE:
            if len(tree[0]) > 4:
                continue
            rows = [branch_row(tree, place) for place in range(len(tree[0]))]
            for x in still_cycles(tree, 5):
                told = shares(tree, x)
                self.assertGreaterEqual(min(told), 0)
                columns = [sum(many * row[at] for many, row in zip(told, rows)) for at in range(len(x))]
                self.assertEqual(tuple(columns), x)

    def test_not_smooth(self):
        for tree in ROUGH:
            for x in ((0,) * len(tree[0]), (BIG,) * len(tree[0])):
                self.refused(NotSmooth, {}, shares, tree, x)
                self.refused(NotSmooth, {}, point_row, tree, x)


class PointRows(unittest.TestCase):
    def test_the_greatest_loose_place_each_time(self):
        chance = random.Random(258)
        for tree in SMOOTH + JUST:
            for most in (1, 9, BIG):
                x = some_cycle(chance, tree, most)
                told = point_row(tree, x)
                self.assertIs(type(told), tuple)
                self.assertEqual(told, tuple(plain_point_row(Last(), tree, x)))

    def test_whatever_is_blown_down_first(self):
        chance = random.Random(259)
        for tree in SMOOTH:
            for most in (2, BIG):
                x = some_cycle(chance, tree, most)
                told = sorted(point_row(tree, x))
                listing = some_listing(chance, len(tree[0]))
                self.assertEqual(sorted(plain_point_row(chance, tree, x)), told)
                self.assertEqual(sorted(point_row(listed(tree, listing), tuple(x[at] for at in listing))), told)

    def test_products_and_heights(self):
        chance = random.Random(260)
        for tree in SMOOTH:
            for most in (3, BIG):
                one, other = some_cycle(chance, tree, most), some_cycle(chance, tree, most)
                points, others = point_row(tree, one), point_row(tree, other)
                self.assertEqual(-sum(a * b for a, b in zip(points, others)), form(plain_table(tree), one, other))
                self.assertEqual(sum(m * (m + 1) // 2 for m in points), height(tree, canonical_row(tree), one))

    def test_still_cycles(self):
        chance = random.Random(261)
        for tree in SMOOTH:
            for place in range(len(tree[0])):
                self.assertGreaterEqual(min(point_row(tree, branch_row(tree, place))), 0)
            for x in some_stills(chance, tree):
                self.assertGreaterEqual(min(point_row(tree, x)), 0)

    def test_known_rows(self):
        cusp = row_tree((-2, -1, -3))
        self.assertEqual(point_row(POINT, (-7,)), (-7,))
        self.assertEqual(point_row(cusp, (3, 6, 2)), (1, 1, 2))
        self.assertEqual(point_row(cusp, (5, 0, -1)), (-4, 6, -1))
        self.assertEqual(point_row(star((-3, -1, -1)), (4, 5, 7)), (3, 1, 4))


if __name__ == "__main__":
    unittest.main()
