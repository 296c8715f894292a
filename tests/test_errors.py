"""Interface, ropecabins/errors.py."""

import unittest

from ropecabins import errors

UNDER = ("BadStations", "BadSpace", "BadCabins", "BadTicks", "BadStation", "BadTale", "Full", "Empty")


class ErrorsTest(unittest.TestCase):
    def test_rope_error_is_straight_under_value_error(self):
        self.assertEqual(errors.RopeError.__bases__, (ValueError,))

    def test_each_other_is_straight_under_rope_error(self):
        for name in UNDER:
            with self.subTest(name):
                kind = getattr(errors, name)
                self.assertEqual(kind.__name__, name)
                self.assertEqual(kind.__bases__, (errors.RopeError,))

    def test_all_are_different(self):
        self.assertEqual(len({getattr(errors, name) for name in UNDER}), 8)

    def test_each_can_be_raised_and_caught_as_a_rope_error(self):
        for name in UNDER:
            with self.subTest(name):
                with self.assertRaises(errors.RopeError):
                    raise getattr(errors, name)("why")


if __name__ == "__main__":
    unittest.main()
