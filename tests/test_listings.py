"""[4]: places and how they lie, trees numbered otherwise, least forms."""

import itertools
import random
import unittest

from blowntrees.listings import least_form, least_listing, listed
from blowntrees.texts import written
from blowntrees.trees import joints, leaves, neighbours, path, tree_breach
from samples import (E8, EMPTY, GREAT, NAMED, TREES, all_trees, row_tree, some_listing,
                     some_trees, star, twigs)


def text_order(text):
    """Return the weights as they stand in a text, from left to right."""
    for sign in "()":
        text = text.replace(sign, " ")
    return tuple(int(word) for word in text.split())


class Places(unittest.TestCase):
    def test_neighbours(self):
        for tree in TREES:
            for place in range(len(tree[0])):
                near = tuple(other for other in range(len(tree[0]))
                             if (other, place) in tree[1] or (place, other) in tree[1])
                self.assertEqual(neighbours(tree, place), near)

    def test_leaves_and_joints(self):
        for tree in TREES:
            counts = [sum(place in tie for tie in tree[1]) for place in range(len(tree[0]))]
            self.assertEqual(leaves(tree), tuple(p for p, c in enumerate(counts) if c <= 1))
            self.assertEqual(joints(tree), tuple(p for p, c in enumerate(counts) if c >= 3))

    def test_leaves_and_joints_of_known_trees(self):
        self.assertEqual((leaves(EMPTY), joints(EMPTY)), ((), ()))
        self.assertEqual((leaves(((7,), ())), joints(((7,), ()))), ((0,), ()))
        self.assertEqual((leaves(row_tree((1, 2))), joints(row_tree((1, 2)))), ((0, 1), ()))
        self.assertEqual((leaves(E8), joints(E8)), ((0, 6, 7), (2,)))
        self.assertEqual(leaves(star((0,) * 16)), tuple(range(1, 16)))
        self.assertEqual(joints(star((0,) * 3)), ())
        self.assertEqual(joints(star((0,) * 4)), (0,))

    def test_path_goes_along_ties_without_going_back(self):
        for tree in NAMED + GREAT:
            for i in range(len(tree[0])):
                for j in range(len(tree[0])):
                    told = path(tree, i, j)
                    self.assertEqual((told[0], told[-1]), (i, j))
                    self.assertEqual(len(set(told)), len(told))
                    for a, b in zip(told, told[1:]):
                        self.assertIn((min(a, b), max(a, b)), tree[1])
                    self.assertEqual(path(tree, j, i), told[::-1])

    def test_path_of_known_trees(self):
        self.assertEqual(path(((5,), ()), 0, 0), (0,))
        self.assertEqual(path(E8, 7, 5), (7, 2, 3, 4, 5))
        self.assertEqual(path(E8, 5, 7), (5, 4, 3, 2, 7))
        self.assertEqual(path(E8, 4, 4), (4,))
        self.assertEqual(path(row_tree((0,) * 16), 15, 0), tuple(range(15, -1, -1)))


class Listings(unittest.TestCase):
    def test_listed(self):
        tree = ((10, 20, 30, 40), ((0, 1), (1, 2), (1, 3)))
        self.assertEqual(listed(tree, (3, 1, 0, 2)), ((40, 20, 10, 30), ((0, 1), (1, 2), (1, 3))))
        self.assertEqual(listed(tree, (0, 3, 2, 1)), ((10, 40, 30, 20), ((0, 3), (1, 3), (2, 3))))
        self.assertEqual(listed(EMPTY, ()), EMPTY)

    def test_place_k_is_the_place_of_the_listing(self):
        chance = random.Random(5)
        for tree in TREES:
            listing = some_listing(chance, len(tree[0]))
            new = listed(tree, listing)
            self.assertIsNone(tree_breach(new))
            for k, place in enumerate(listing):
                self.assertEqual(new[0][k], tree[0][place])
                self.assertEqual(sorted(listing[other] for other in neighbours(new, k)),
                                 list(neighbours(tree, place)))

    def test_listing_turned_back(self):
        chance = random.Random(6)
        for tree in TREES:
            listing = some_listing(chance, len(tree[0]))
            back = tuple(listing.index(place) for place in range(len(listing)))
            self.assertEqual(listed(listed(tree, listing), back), tree)
            self.assertEqual(listed(tree, tuple(range(len(tree[0])))), tree)


class LeastForms(unittest.TestCase):
    def test_least_form_is_numbered_as_written(self):
        for tree in TREES:
            form = least_form(tree)
            self.assertIsNone(tree_breach(form))
            self.assertEqual(form[0], text_order(written(tree)))
            self.assertEqual(written(form), written(tree))
            self.assertEqual(least_form(form), form)
            # Each place but the first one hangs on just one ahead of it.
            self.assertEqual([j for _, j in sorted(form[1], key=lambda tie: tie[1])],
                             list(range(1, len(form[0]))))

    def test_least_forms_of_known_trees(self):
        self.assertEqual(least_form(EMPTY), EMPTY)
        self.assertEqual(least_listing(EMPTY), ())
        tree = ((-2, -1, -3, -7), ((0, 1), (1, 2), (1, 3)))
        self.assertEqual(least_form(tree), ((-1, -2, -3, -7), ((0, 1), (0, 2), (0, 3))))
        self.assertEqual(least_listing(tree), (1, 0, 2, 3))
        # "-2(-2 -2)" is less than "-2(-2(-2))".
        self.assertEqual(least_form(row_tree((-2, -2, -2))), ((-2, -2, -2), ((0, 1), (0, 2))))
        self.assertEqual(least_listing(row_tree((-2, -2, -2))), (1, 0, 2))

    def test_like_trees_have_the_same_least_form(self):
        chance = random.Random(7)
        for tree in TREES:
            form = least_form(tree)
            for _ in range(3):
                self.assertEqual(least_form(listed(tree, some_listing(chance, len(tree[0])))), form)

    def test_all_listings_of_small_trees(self):
        small = all_trees(3, (-1, 0)) + all_trees(4, (-2, 7)) + some_trees(8, 25, (5, 6), (-1, -2))
        for tree in small + [twigs((0,) * 6), star((0,) * 6), row_tree((0,) * 6)]:
            form = least_form(tree)
            leading = []
            for listing in itertools.permutations(range(len(tree[0]))):
                new = listed(tree, listing)
                if new == form:
                    leading.append(listing)
                if len(tree[0]) < 5:
                    self.assertEqual(least_form(new), form)
            self.assertEqual(least_listing(tree), min(leading))

    def test_trees_are_alike_exactly_if_least_forms_are_equal(self):
        trees = all_trees(4, (-10, 1))
        alike = {}
        for tree in trees:
            all_like = {listed(tree, listing) for listing in itertools.permutations(range(4))}
            alike.setdefault(least_form(tree), all_like)
            self.assertEqual(alike[least_form(tree)], all_like)
        self.assertEqual(sum(len(like) for like in alike.values()), len(trees))

    def test_least_listing_leads_to_the_least_form(self):
        for tree in TREES:
            listing = least_listing(tree)
            self.assertEqual(sorted(listing), list(range(len(tree[0]))))
            self.assertEqual(listed(tree, listing), least_form(tree))

    def test_no_lesser_listing_by_exchanging_places(self):
        for tree in NAMED + GREAT:
            listing = least_listing(tree)
            form = least_form(tree)
            for a, b in itertools.combinations(range(len(listing)), 2):
                if listing[b] < listing[a]:
                    other = list(listing)
                    other[a], other[b] = other[b], other[a]
                    self.assertNotEqual(listed(tree, tuple(other)), form)

    def test_least_listing_with_many_like_places(self):
        self.assertEqual(least_listing(star((0,) * 16)), tuple(range(16)))
        centre_last = listed(star((0,) * 16), tuple(range(15, -1, -1)))
        self.assertEqual(least_listing(centre_last), (15,) + tuple(range(15)))
        # Two like halves of a row, "0(0 1(0(0)))": the lesser place of the two begins.
        self.assertEqual(least_listing(((1, 0, 0, 0, 0), ((0, 2), (0, 4), (1, 2), (3, 4)))),
                         (2, 1, 0, 4, 3))
        self.assertEqual(least_listing(((1, 0, 0, 0, 0), ((0, 3), (0, 4), (1, 4), (2, 3)))),
                         (3, 2, 0, 4, 1))


if __name__ == "__main__":
    unittest.main()
