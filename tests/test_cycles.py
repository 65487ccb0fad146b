"""[23], [24], [25]: steps, least cycles, rational trees."""

import itertools
import random
import unittest

from blowntrees.cycles import above, is_rational, least_cycle, multiplicity, step_values, steps_above
from blowntrees.errors import NotBelow, NotRational, NotSteps, TooMany
from blowntrees.heights import canonical_row
from blowntrees.sames import least_tree
from blowntrees.tables import product, row_of
from belows import (BASES, BELOW, GREAT_BELOW, LESS_LONG, LONG, NONE_NEAR, NOT_BELOW, SEVEN, SMALL_BELOW, SOME_BELOW,
                    blown_up, same_pairs, shuffled)
from plain import plain_climb, plain_height
from samples import E8, EMPTY, row_tree, star, twigs

SHORT = [tree for tree in BELOW if tree not in (LONG, LESS_LONG)]
LOW_ROWS = [row_tree((-2,) * 16), row_tree((-2, -3) * 8), star((-9,) + (-2,) * 7), twigs((-3,) * 15)]


def unit(tree, place):
    return tuple(int(other == place) for other in range(len(tree[0])))


def some_start(chance, tree, low=-3, high=3):
    return tuple(chance.randint(low, high) for _ in tree[0])


class Above(unittest.TestCase):
    def refused(self, kind, attributes, act, *arguments):
        with self.assertRaises(kind) as caught:
            act(*arguments)
        self.assertEqual(vars(caught.exception), attributes)

    def test_whatever_the_sequence(self):
        chance = random.Random(130)
        for tree in SHORT:
            for _ in range(2):
                x = some_start(chance, tree)
                told, met = plain_climb(chance, tree, x)
                if len(met) <= 5000:
                    self.assertEqual(above(tree, x), told)
                    self.assertEqual(len(steps_above(tree, x)), len(met))
                    self.assertEqual(above(tree, told), told)
                    self.assertEqual(steps_above(tree, told), ())
                    self.assertEqual(step_values(tree, told, ()), ())

    def test_the_least_one_above(self):
        chance = random.Random(131)
        for tree in SMALL_BELOW:
            x = some_start(chance, tree, -2, 2)
            told = above(tree, x)
            self.assertTrue(max(row_of(tree, told), default=0) <= 0)
            self.assertTrue(all(a <= b for a, b in zip(x, told)))
            for y in itertools.product(*[range(entry, entry + 5) for entry in x]):
                if max(row_of(tree, y), default=0) <= 0:
                    self.assertTrue(all(a <= b for a, b in zip(told, y)))

    def test_great_entries(self):
        big = 10 ** 40
        for tree in LOW_ROWS:
            x = tuple(big * entry for entry in above(tree, unit(tree, 1)))
            self.assertEqual(above(tree, x), x)
            less = tuple(entry - 2 for entry in x)
            told = above(tree, less)
            self.assertTrue(max(row_of(tree, told)) <= 0)
            self.assertTrue(all(low <= entry <= high for low, entry, high in zip(less, told, x)))

    def test_steps_at_the_least_place(self):
        chance = random.Random(132)
        for tree in SHORT:
            x = some_start(chance, tree)
            if len(plain_climb(chance, tree, x)[1]) > 2000:
                continue
            y = list(x)
            for place in steps_above(tree, x):
                row = row_of(tree, y)
                self.assertEqual(place, min(at for at, entry in enumerate(row) if entry > 0))
                y[place] += 1
            self.assertEqual(tuple(y), above(tree, x))

    def test_known_steps(self):
        self.assertEqual((above(EMPTY, ()), steps_above(EMPTY, ()), step_values(EMPTY, (), ())), ((), (), ()))
        self.assertEqual(above(((-1,), ()), (-3,)), (0,))
        self.assertEqual(steps_above(((-1,), ()), (-3,)), (0, 0, 0))
        self.assertEqual(step_values(((-2,), ()), (-3,), (0, 0, 0)), (6, 4, 2))
        self.assertEqual(steps_above(row_tree((-2, -2, -2)), (0, 1, 0)), (0, 2))
        self.assertEqual(above(row_tree((-2, -2, -2)), (0, 1, 0)), (1, 1, 1))
        self.assertEqual(steps_above(SEVEN, (1, 0, 0, 0)), (1, 2, 0, 3, 0, 1, 0, 2, 0, 1, 0))
        self.assertEqual(above(SEVEN, (1, 0, 0, 0)), (6, 3, 2, 1))
        self.assertEqual(step_values(SEVEN, (1, 0, 0, 0), (1, 2, 0, 3, 0, 1, 0, 2, 0, 1, 0)),
                         (1, 1, 1, 2, 1, 1, 1, 1, 1, 1, 1))
        self.assertEqual(step_values(SEVEN, (1, 0, 0, 0), (1, 2, 3, 0, 0, 1, 0, 2, 0, 1, 0)),
                         (1, 1, 1, 2, 1, 1, 1, 1, 1, 1, 1))

    def test_limit_of_steps(self):
        tree = ((-1,), ())
        self.assertEqual(above(tree, (-5000,)), (0,))
        self.assertEqual(steps_above(tree, (-5000,)), (0,) * 5000)
        for tree, x in [(tree, (-5001,)), (tree, (-10 ** 50,)), (LONG, unit(LONG, 3)), (E8, (10 ** 9,) + (0,) * 7),
                        (LESS_LONG, unit(LESS_LONG, 2)), (E8, (-10 ** 30,) * 8)]:
            self.refused(TooMany, {"limit": 5000}, above, tree, x)
            self.refused(TooMany, {"limit": 5000}, steps_above, tree, x)


class StepValues(unittest.TestCase):
    def refused(self, place, tree, x, places):
        with self.assertRaises(NotSteps) as caught:
            step_values(tree, x, places)
        self.assertEqual(caught.exception.place, place)

    def cases(self):
        chance = random.Random(133)
        for tree in SHORT:
            x = some_start(chance, tree)
            places = []
            y = list(x)
            while len(places) < 300:
                row = row_of(tree, y)
                there = [place for place, entry in enumerate(row) if entry > 0]
                if not there:
                    yield tree, x, tuple(places)
                    break
                places.append(chance.choice(there))
                y[places[-1]] += 1

    def test_values(self):
        for tree, x, places in self.cases():
            y = list(x)
            met = []
            for place in places:
                met.append(row_of(tree, y)[place])
                y[place] += 1
            self.assertEqual(step_values(tree, x, places), tuple(met))
            self.assertTrue(all(entry > 0 for entry in met))
            self.assertEqual(tuple(y), above(tree, x))

    def test_wrong_steps(self):
        for tree, x, places in self.cases():
            for count in range(len(places))[:25]:
                self.refused(count, tree, x, places[:count])
                y = list(x)
                for place in places[:count]:
                    y[place] += 1
                for place, entry in enumerate(row_of(tree, y)):
                    if entry <= 0:
                        self.refused(count, tree, x, places[:count] + (place,) + places[count:])
            for place in range(len(x)):
                self.refused(len(places), tree, x, places + (place,))
            for wrong in (len(x), -1, -len(x), 10 ** 20, True, False, None, "0", (0,), 0.0):
                self.refused(len(places), tree, x, places + (wrong,))
                if places:
                    self.refused(0, tree, x, (wrong,) + places)
                    self.refused(len(places) - 1, tree, x, places[:-1] + (wrong,))

    def test_no_tuple(self):
        for value in ([], [0], None, 0, "", {}, range(1)):
            self.refused(-1, ((-1,), ()), (-1,), value)

    def test_too_many_ahead_of_wrong_steps(self):
        tree = ((-1,), ())
        self.assertEqual(step_values(tree, (-5000,), (0,) * 5000), tuple(range(5000, 0, -1)))
        self.refused(5000, tree, (-5001,), (0,) * 5000)
        self.refused(4000, tree, (-4000,), (0,) * 5000)
        for places in ((0,) * 5001, (9,) * 5001, (0,) * 5000 + (None,), ("x",) * 6000):
            for x in ((-5001,), (5,)):
                with self.assertRaises(TooMany) as caught:
                    step_values(tree, x, places)
                self.assertEqual(caught.exception.limit, 5000)


class LeastCycles(unittest.TestCase):
    def test_from_every_place(self):
        for tree in SHORT:
            if not tree[0]:
                continue
            told = least_cycle(tree)
            for place in range(len(tree[0])):
                self.assertEqual(above(tree, unit(tree, place)), told)
            self.assertTrue(min(told) >= 1)
            self.assertTrue(max(row_of(tree, told)) <= 0)

    def test_the_least_of_all(self):
        for tree in SMALL_BELOW:
            told = least_cycle(tree)
            for x in itertools.product(range(4), repeat=len(tree[0])):
                if any(x) and max(row_of(tree, x)) <= 0:
                    self.assertTrue(all(a <= b for a, b in zip(told, x)))

    def test_known_least_cycles(self):
        for tree, told in [(EMPTY, ()), (((-1,), ()), (1,)), (((-60,), ()), (1,)), (row_tree((-2,) * 16), (1,) * 16),
                           (E8, (2, 4, 6, 5, 4, 3, 2, 3)), (SEVEN, (6, 3, 2, 1)), (star((-2,) * 4), (2, 1, 1, 1)),
                           (row_tree((-2, -1, -3)), (1, 2, 1)), (star((-1, -2, -3, -7, -43)), (42, 21, 14, 6, 1))]:
            self.assertEqual(least_cycle(tree), told, tree)

    def test_too_many(self):
        for tree in (LONG, LESS_LONG):
            for act in (least_cycle, is_rational, multiplicity):
                with self.assertRaises(TooMany) as caught:
                    act(tree)
                self.assertEqual(caught.exception.limit, 5000)


class Rational(unittest.TestCase):
    def test_by_the_steps_and_the_heights(self):
        chance = random.Random(134)
        seen = {}
        for tree in SHORT:
            told = is_rational(tree)
            seen[told] = seen.get(told, 0) + 1
            if tree[0]:
                for _ in range(3):
                    _, met = plain_climb(chance, tree, unit(tree, chance.randrange(len(tree[0]))))
                    self.assertIs(told, all(entry == 1 for entry in met))
                height = plain_height(tree, canonical_row(tree), least_cycle(tree))
                self.assertTrue(height == 1 if told else height < 1)
        self.assertGreater(min(seen[True], seen[False]), 10)

    def test_heights_of_all_cycles(self):
        for tree in SMALL_BELOW[::2] + [tree for tree in SOME_BELOW if 3 < len(tree[0]) < 6][:12]:
            if is_rational(tree):
                for x in itertools.product(range(4), repeat=len(tree[0])):
                    self.assertTrue(not any(x) or plain_height(tree, canonical_row(tree), x) >= 1)

    def test_same_trees(self):
        for one, other in same_pairs(135, 60):
            self.assertIs(is_rational(one), is_rational(other))

    def test_known_trees(self):
        for tree in [EMPTY, ((-1,), ()), ((-60,), ()), E8, row_tree((-2,) * 16), row_tree((-2, -1, -3)),
                     star((-3,) * 4), star((-4, -2, -2, -2, -2)), twigs((-3,) * 16), row_tree((-60,) * 16)]:
            self.assertIs(is_rational(tree), True)
        for tree in [SEVEN, star((-1, -3, -3, -4)), star((-2, -3, -3, -3, -3)), star((-1, -2, -3, -7, -43))] + NONE_NEAR:
            self.assertIs(is_rational(tree), False)


class Multiplicities(unittest.TestCase):
    def test_multiplicity(self):
        for tree in SHORT:
            if not tree[0] or not is_rational(tree):
                self.assertRaises(NotRational, multiplicity, tree)
                continue
            told = multiplicity(tree)
            self.assertEqual(told, -product(tree, least_cycle(tree), least_cycle(tree)))
            self.assertGreaterEqual(told, 1)
            self.assertEqual(told == 1, least_tree(tree) == EMPTY)

    def test_same_trees(self):
        for one, other in same_pairs(136, 60):
            if one[0] and other[0] and is_rational(one):
                self.assertEqual(multiplicity(one), multiplicity(other))
        chance = random.Random(137)
        for many in range(1, 17):
            self.assertEqual(multiplicity(shuffled(chance, blown_up(chance, EMPTY, many))), 1)

    def test_known_multiplicities(self):
        for tree, told in [(((-1,), ()), 1), (((-60,), ()), 60), (E8, 2), (row_tree((-2,) * 16), 2),
                           (row_tree((-3, -2, -4)), 5), (star((-3,) * 4), 6), (row_tree((-2, -1, -3)), 1)]:
            self.assertEqual(multiplicity(tree), told, tree)
        for tree in [EMPTY, SEVEN] + NONE_NEAR:
            self.assertRaises(NotRational, multiplicity, tree)


class NotBelowZero(unittest.TestCase):
    def test_not_below(self):
        for tree in NOT_BELOW:
            x = (-10 ** 9,) * len(tree[0])
            for act, arguments in [(above, (tree, x)), (steps_above, (tree, x)), (step_values, (tree, x, ())),
                                   (step_values, (tree, x, (0,) * 5001)), (step_values, (tree, x, [])),
                                   (least_cycle, (tree,)), (is_rational, (tree,)), (multiplicity, (tree,))]:
                self.assertRaises(NotBelow, act, *arguments)


if __name__ == "__main__":
    unittest.main()
