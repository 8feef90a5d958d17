"""What the tests share."""

import unittest


class BureauCase(unittest.TestCase):
    def assert_raises(self, error, fields, call, *given, **more):
        """The call raises exactly this error, with these fields in the order of its making."""
        with self.assertRaises(ValueError) as caught:
            call(*given, **more)
        self.assertIs(error, caught.exception.__class__)
        self.assertEqual(fields, tuple(vars(caught.exception).values()))

    def assert_unequal_to_others(self, thing, others):
        """`==` is False, not an error, beside each of the others, on either side."""
        for other in others:
            with self.subTest(other=other):
                self.assertIs(False, thing == other)
                self.assertIs(False, other == thing)
                self.assertIs(True, thing != other)
