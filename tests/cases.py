"""A test case that looks at the errors of calls."""

import unittest

from tests.things import frozen


class ErrorCase(unittest.TestCase):
    def assert_error(self, error, values, call, *arguments):
        """The call raises the error with these values, and its arguments are as they were."""
        copies = frozen(arguments)
        with self.assertRaises(error) as caught:
            call(*arguments)
        self.assertIs(type(caught.exception), error)
        self.assertEqual(vars(caught.exception), values)
        self.assertEqual(arguments, copies)
