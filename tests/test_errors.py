import unittest

from keptranges import errors


class ErrorsTest(unittest.TestCase):
    def test_range_error_is_directly_below_value_error(self):
        self.assertEqual(errors.RangeError.__bases__, (ValueError,))

    def test_refusals_are_directly_below_range_error(self):
        for refusal in (errors.NoClock, errors.NoText):
            self.assertEqual(refusal.__bases__, (errors.RangeError,))

    def test_refusals_are_not_below_one_another(self):
        self.assertFalse(issubclass(errors.NoClock, errors.NoText))
        self.assertFalse(issubclass(errors.NoText, errors.NoClock))
