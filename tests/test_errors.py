"""The error classes of the interface."""
import unittest

from shellstair import errors
from shellstair.errors import NoEnd, NoMove, NoNumber, NoSign, Short, StairError

REFUSALS = (NoMove, NoNumber, Short, NoSign, NoEnd)


class ErrorClasses(unittest.TestCase):
    def test_stair_error_is_a_value_error(self):
        self.assertEqual(StairError.__bases__, (ValueError,))

    def test_each_stands_under_stair_error_and_value_error(self):
        for refusal in REFUSALS:
            with self.subTest(refusal.__name__):
                self.assertTrue(issubclass(refusal, StairError))
                self.assertTrue(issubclass(refusal, ValueError))
                self.assertFalse(issubclass(StairError, refusal))

    def test_none_stands_under_another_one(self):
        for one in REFUSALS:
            for other in REFUSALS:
                if one is not other:
                    with self.subTest(one=one.__name__, other=other.__name__):
                        self.assertFalse(issubclass(one, other))

    def test_five_different_classes_under_their_names(self):
        self.assertEqual(len(set(REFUSALS)), 5)
        for name in ("StairError", "NoMove", "NoNumber", "Short", "NoSign", "NoEnd"):
            with self.subTest(name):
                self.assertEqual(getattr(errors, name).__name__, name)

    def test_each_is_raised_and_taken_by_its_own_name_and_by_the_common_ones(self):
        for refusal in REFUSALS:
            for taken in (refusal, StairError, ValueError):
                with self.subTest(refusal=refusal.__name__, taken=taken.__name__):
                    with self.assertRaises(taken) as seen:
                        raise refusal("free words")
                    self.assertIs(seen.exception.__class__, refusal)
                    self.assertEqual(str(seen.exception), "free words")

    def test_none_is_taken_by_another_ones_name(self):
        for refusal in REFUSALS:
            others = tuple(other for other in REFUSALS if other is not refusal)
            with self.subTest(refusal.__name__):
                self.assertNotIsInstance(refusal(), others)


if __name__ == "__main__":
    unittest.main()
