"""A test case that knows refusals."""

import unittest


class RefusalCase(unittest.TestCase):

    def assert_refused(self, kind, action, *things):
        """The refusal is of just this class, not of one under or above it."""
        try:
            told = action(*things)
        except Exception as error:
            self.assertIs(type(error), kind, things)
        else:
            self.fail(f"{action.__name__}{things!r} told {told!r}")
