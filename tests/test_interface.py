"""The names and arguments of the interface, each defined in its own file."""

import importlib
import inspect
import unittest

INTERFACE = {
    "trees": ["tree_breach(value)", "check_tree(value)", "neighbours(tree, place)", "leaves(tree)",
              "joints(tree)", "path(tree, i, j)"],
    "listings": ["listed(tree, listing)", "least_listing(tree)", "least_form(tree)"],
    "texts": ["written(tree)", "read_tree(text)"],
    "tables": ["table(tree)", "determinant(tree)", "signs(tree)", "is_below(tree)", "folds(tree, root)",
               "row_of(tree, cycle)", "product(tree, one, other)", "not_below(tree)"],
    "inverses": ["inverse(tree)", "left_determinant(tree, places)"],
    "chains": ["chain_tree(chain)", "chain_number(chain)", "chain_of(number)", "other_side(chain)",
               "chain_loops(chain)"],
    "blowing": ["blown_at(tree, place)", "blown_on(tree, tie)", "blown_down(tree, place)",
                "nought_out(tree, place)", "loose_places(tree)"],
    "sames": ["least_tree(tree)", "are_same(tree, other)", "moved(tree, moves)", "moves_between(tree, other)"],
    "loops": ["loop_of(tree, row)", "all_loops(tree)", "loop_sizes(tree)", "loop_order(tree, row)"],
    "linkings": ["linking(tree, one, other)", "linking_row(tree)", "blown_row(tree, move, row)"],
    "heights": ["canonical_row(tree)", "is_marked(tree, row)", "square(tree, row)", "standing(tree)",
                "height(tree, k, x)", "carried(tree, k, x)"],
    "classes": ["class_of(tree, k)", "all_classes(tree)", "level(tree, k)", "lowest(tree, k)",
                "lowest_rows(tree, k)"],
    "cycles": ["above(tree, x)", "steps_above(tree, x)", "step_values(tree, x, places)", "least_cycle(tree)",
               "is_rational(tree)", "multiplicity(tree)"],
    "nears": ["near_places(tree)", "near_row(tree, place, count)", "near_root(tree, place)"],
    "roots": ["root_by_rows(tree, k)", "rank_left(root)", "root_of_row(heights)"],
    "stars": ["star_tree(star)", "star_of(tree)", "star_sum(star)", "star_row(star, count)", "sphere_star(numbers)",
              "corner_sum(p, q, r)"],
    "lots": ["right_lots(tree)", "lot_number(tree, lot)", "lot_numbers(tree)", "middle_height(root)"],
    "branches": ["is_smooth(tree)", "branch_row(tree, place)", "values(tree, place, most)", "gaps(tree, place)",
                 "turn_point(tree, place)", "value_row(tree, place, count)", "meeting(tree, u, v)"],
    "splits": ["cut_at(tree, tie)", "tied(one, i, other, j)", "side_numbers(tree, place)"],
    "sums": ["fraction_sum(number)", "chain_levels(number)"],
    "stills": ["is_still(tree, x)", "still_cycles(tree, most)", "loss(tree, x)", "pulled_up(tree, move, x)",
               "shares(tree, x)", "point_row(tree, x)"],
    "lists": ["shapes(n)", "trees_between(n, low, high)", "rational_trees(n, low)", "unimodular_trees(n, low, high)"],
    "points": ["points_of(tree, place)", "tree_of_points(points)"],
}


class Interface(unittest.TestCase):
    def test_names_and_arguments(self):
        for name, functions in INTERFACE.items():
            module = importlib.import_module("blowntrees." + name)
            for told in functions:
                function = getattr(module, told.split("(")[0])
                self.assertEqual(function.__name__ + str(inspect.signature(function)), told)
                self.assertEqual(function.__module__, "blowntrees." + name)


if __name__ == "__main__":
    unittest.main()
