import unittest

from common import KINDS
from meetjoin import errors


class ErrorsTest(unittest.TestCase):
    def test_any_refusal_is_a_value_error(self):
        self.assertEqual(errors.OrderError.__bases__, (ValueError,))

    def test_each_kind_is_under_order_error(self):
        for name in KINDS:
            self.assertTrue(issubclass(getattr(errors, name), errors.OrderError), name)
            self.assertIsNot(getattr(errors, name), errors.OrderError)

    def test_no_kind_is_under_another(self):
        for name in KINDS:
            for other in KINDS:
                under = issubclass(getattr(errors, name), getattr(errors, other))
                self.assertEqual(under, name == other, (name, other))

    def test_each_kind_is_caught_as_order_error_and_as_value_error(self):
        for name in KINDS:
            for caught in (errors.OrderError, ValueError):
                with self.assertRaises(caught):
                    raise getattr(errors, name)("some words")


if __name__ == "__main__":
    unittest.main()
