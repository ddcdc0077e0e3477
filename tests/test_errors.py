"""The refusals: their names, what they stand under, and the field of NoEntry."""

import unittest

from paidspan import errors

REFUSALS = ("NoDate", "NoParts", "NoAmount", "NoSpan", "TooLong", "NoAccount", "NoText", "NoRow", "NoEntry")


class Refusals(unittest.TestCase):
    def test_span_error_stands_right_under_value_error(self):
        self.assertEqual(errors.SpanError.__bases__, (ValueError,))

    def test_each_refusal_stands_right_under_span_error(self):
        for name in REFUSALS:
            with self.subTest(name=name):
                self.assertEqual(getattr(errors, name).__bases__, (errors.SpanError,))

    def test_no_two_refusals_are_one_or_under_one_another(self):
        for name in REFUSALS:
            for other in REFUSALS:
                with self.subTest(name=name, other=other):
                    one, two = getattr(errors, name), getattr(errors, other)
                    self.assertEqual(issubclass(one, two), name == other)
            self.assertEqual(getattr(errors, name).__name__, name)

    def test_each_refusal_is_taken_as_span_error_and_not_as_another(self):
        for name in REFUSALS:
            with self.subTest(name=name):
                try:
                    raise getattr(errors, name)(3)
                except errors.SpanError as e:
                    self.assertIs(type(e), getattr(errors, name))

    def test_no_entry_has_its_number(self):
        for number in (0, 7, 39, 10 ** 59, 10 ** 5000):
            self.assertEqual(errors.NoEntry(number).number, number)

    def test_two_no_entries_have_each_their_own_number(self):
        one, two = errors.NoEntry(7), errors.NoEntry(8)
        self.assertEqual((one.number, two.number), (7, 8))


if __name__ == "__main__":
    unittest.main()
