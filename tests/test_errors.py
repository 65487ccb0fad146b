"""[2]: the errors, and the attributes that the interface lists."""

import unittest

from blowntrees import errors

ATTRIBUTES = {
    "NotTree": ("rule", "place"), "NotText": ("place",), "TooMany": ("limit",),
    "TooGreat": ("limit",), "Nought": (), "NotLoose": (), "NotBelow": (),
    "NotMoves": ("place",), "NotSame": (), "NotNought": (), "NotSteps": ("place",),
    "NotRational": (), "NotNear": (), "NotStar": (), "NotApart": (), "NotSmooth": (),
    "NotPoints": ("place",),
}


class Errors(unittest.TestCase):
    def test_tree_error_is_a_value_error(self):
        self.assertEqual(errors.TreeError.__bases__, (ValueError,))

    def test_each_error_is_a_direct_subclass(self):
        for name in ATTRIBUTES:
            self.assertEqual(getattr(errors, name).__bases__, (errors.TreeError,), name)

    def test_there_are_no_others(self):
        told = {kind.__name__ for kind in errors.TreeError.__subclasses__()}
        self.assertEqual(told, set(ATTRIBUTES))

    def test_none_is_a_subclass_of_another_one(self):
        kinds = [getattr(errors, name) for name in ATTRIBUTES]
        for one in kinds:
            for other in kinds:
                self.assertEqual(issubclass(one, other), one is other)

    def test_attributes_are_set_when_created(self):
        for name, attributes in ATTRIBUTES.items():
            values = [f"{name} {k}" for k in range(len(attributes))]
            error = getattr(errors, name)(*values)
            self.assertEqual(vars(error), dict(zip(attributes, values)))

    def test_errors_are_defined_in_their_file(self):
        for name in ATTRIBUTES:
            self.assertEqual(getattr(errors, name).__module__, "blowntrees.errors")


if __name__ == "__main__":
    unittest.main()
