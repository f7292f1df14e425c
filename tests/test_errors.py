"""The classes of errors.py: all there, and none made from another."""

import unittest

from turtlehouse import errors

REFUSALS = ("NoProgram", "NoText", "NoMark", "TooGreat", "TooLong", "NotWhole")


class ErrorsTest(unittest.TestCase):
    def test_house_error_is_made_from_value_error(self):
        self.assertEqual(errors.HouseError.__bases__, (ValueError,))

    def test_each_refusal_is_made_from_house_error(self):
        for name in REFUSALS:
            with self.subTest(name=name):
                refusal = getattr(errors, name)
                self.assertEqual(refusal.__name__, name)
                self.assertTrue(issubclass(refusal, errors.HouseError))
                self.assertTrue(issubclass(refusal, ValueError))
                self.assertIsNot(refusal, errors.HouseError)

    def test_no_refusal_is_another_one(self):
        for name in REFUSALS:
            for other in REFUSALS:
                with self.subTest(name=name, other=other):
                    made_from = issubclass(getattr(errors, name), getattr(errors, other))
                    self.assertEqual(made_from, name == other)

    def test_a_refusal_is_raised_and_taken_by_its_name(self):
        for name in REFUSALS:
            with self.subTest(name=name):
                refusal = getattr(errors, name)
                with self.assertRaises(refusal):
                    raise refusal("why")


if __name__ == "__main__":
    unittest.main()
