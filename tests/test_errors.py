"""The refusals: their names, and what they stand under."""

import unittest

from rolldie import errors

NAMES = ("NoFloor", "NoCell", "NoLie", "NoRoll", "NoWay")


class ErrorsTest(unittest.TestCase):
    def test_die_error_stands_straight_under_value_error(self):
        self.assertEqual(errors.DieError.__bases__, (ValueError,))

    def test_each_refusal_stands_straight_under_die_error(self):
        for name in NAMES:
            with self.subTest(name=name):
                self.assertEqual(getattr(errors, name).__bases__, (errors.DieError,))

    def test_the_refusals_are_five_classes(self):
        self.assertEqual(len({getattr(errors, name) for name in NAMES}), 5)

    def test_a_refusal_is_taken_as_itself_and_as_die_error_only(self):
        for name in NAMES:
            with self.subTest(name=name):
                refusal = getattr(errors, name)("why")
                self.assertIsInstance(refusal, errors.DieError)
                others = [other for other in NAMES if isinstance(refusal, getattr(errors, other))]
                self.assertEqual(others, [name])


if __name__ == "__main__":
    unittest.main()
