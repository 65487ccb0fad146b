"""The names and arguments of the interface, each defined in its own file."""

import importlib
import inspect
import unittest

INTERFACE = {
    "trees": ["tree_breach(value)", "check_tree(value)", "neighbours(tree, place)", "leaves(tree)",
              "joints(tree)", "path(tree, i, j)"],
    "listings": ["listed(tree, listing)", "least_listing(tree)", "least_form(tree)"],
    "texts": ["written(tree)", "read_tree(text)"],
}


class Interface(unittest.TestCase):
    def test_names_and_arguments(self):
        for name, functions in INTERFACE.items():
            module = importlib.import_module("blowntrees." + name)
            for told in functions:
                function = getattr(module, told.split("(")[0])
                self.assertEqual(function.__name__ + str(inspect.signature(function)), told)
                self.assertEqual(function.__module__, "blowntrees." + name)


if __name__ == "__main__":
    unittest.main()
