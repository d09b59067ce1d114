"""The base class of the tests of plans and of what rests on them."""

import unittest


class Case(unittest.TestCase):

    def same(self, found, expected):
        """Check that two values are equal and of one kind, also inside."""
        self.assertEqual(found, expected)
        self.assertEqual(repr(found), repr(expected))

    def raises(self, error, told, call, *values, **named):
        """Check that a call raises just this error, and which attributes it tells in their sequence."""
        with self.assertRaises(error) as found:
            call(*values, **named)
        self.assertIs(found.exception.__class__, error)
        held = list(vars(found.exception).values())
        self.assertEqual(len(held), len(told))
        for here, there in zip(held, told):
            # What was passed is told itself. It is not compared, as some values fail if they are.
            if here is not there:
                self.assertIn(there.__class__, (int, str, tuple))
                self.same(here, there)

    def told_itself(self, error, value, call, *values, **named):
        """Check that a call raises just this error and that it tells the very object that was passed."""
        with self.assertRaises(error) as found:
            call(*values, **named)
        self.assertIs(found.exception.__class__, error)
        self.assertIs(found.exception.value, value)
