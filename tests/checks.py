"""What several tests ask."""

import unittest


class Raises(unittest.TestCase):
    def assert_raises_just(self, error, call, *values):
        """A call raises an error of exactly this class, which is returned."""
        with self.assertRaises(error, msg=repr(values)) as caught:
            call(*values)
        self.assertIs(type(caught.exception), error)
        return caught.exception
