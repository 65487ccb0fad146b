"""Tests of errors with their attributes."""

import unittest


class Refusing(unittest.TestCase):
    def refused(self, kind, attributes, act, *arguments):
        """Check that a call raises just this error with just these attributes."""
        with self.assertRaises(kind) as caught:
            act(*arguments)
        self.assertIs(type(caught.exception), kind)
        self.assertEqual(vars(caught.exception), attributes)
