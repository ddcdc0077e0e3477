"""Amounts written with places, and texts read so (point 9)."""

import inspect
import unittest

from paidspan.amounts import read_amount, show_amount
from paidspan.errors import NoAmount, SpanError

FIFTY_FIGURES = 12345678901234567890123456789012345678901234567890
PLACES = (0, 1, 2, 3, 4, 5, 6)
KNOWN = (
    (0, 0, "0"), (0, 1, "0.0"), (0, 2, "0.00"), (0, 6, "0.000000"),
    (1, 0, "1"), (1, 1, "0.1"), (1, 2, "0.01"), (1, 6, "0.000001"),
    (10, 0, "10"), (10, 1, "1.0"), (10, 2, "0.10"), (10, 3, "0.010"),
    (5, 2, "0.05"), (50, 2, "0.50"), (99, 2, "0.99"), (100, 2, "1.00"), (1250, 2, "12.50"), (120, 2, "1.20"),
    (1250, 0, "1250"), (1250, 1, "125.0"), (1250, 3, "1.250"), (1250, 4, "0.1250"), (1250, 6, "0.001250"),
    (123456, 6, "0.123456"), (1234567, 6, "1.234567"), (100000, 5, "1.00000"), (99999, 5, "0.99999"),
    (FIFTY_FIGURES, 0, "12345678901234567890123456789012345678901234567890"),
    (FIFTY_FIGURES, 2, "123456789012345678901234567890123456789012345678.90"),
    (FIFTY_FIGURES, 6, "12345678901234567890123456789012345678901234.567890"),
)
AMOUNTS = tuple(range(0, 1300)) + tuple(
    10 ** many + step for many in range(3, 55) for step in (-1, 0, 1)) + (FIFTY_FIGURES, 10 ** 50 - 1)

# Signs that are no figure 0 to 9; Python's int would take some of them.
OTHER_SIGNS = " \n\t\r_+-.,:'/eEaxO!~\u0661\u0967\uff11\u00b2\u2460\u2212"


class Show(unittest.TestCase):
    def test_arguments(self):
        self.assertEqual(str(inspect.signature(show_amount)), "(amount, places=2)")

    def test_known_amounts(self):
        for amount, places, text in KNOWN:
            self.assertEqual(show_amount(amount, places), text)
            self.assertIs(type(show_amount(amount, places)), str)
            if amount > 0:
                self.assertEqual(show_amount(-amount, places), "-" + text)

    def test_places_left_out_are_two(self):
        for amount, text in ((1250, "12.50"), (5, "0.05"), (-120, "-1.20"), (0, "0.00"), (-5, "-0.05"), (100, "1.00")):
            self.assertEqual(show_amount(amount), text)
            self.assertEqual(show_amount(amount, places=2), text)

    def test_how_each_is_written(self):
        for places in PLACES:
            form = r"\A-?(0|[1-9][0-9]*)" + (rf"\.[0-9]{{{places}}}" if places else "") + r"\Z"
            for amount in AMOUNTS:
                for signed in (amount, -amount):
                    text = show_amount(signed, places)
                    self.assertRegex(text, form)
                    self.assertEqual(text.startswith("-"), signed < 0)
                    self.assertEqual(int(text.replace(".", "")), signed)


class Read(unittest.TestCase):
    def assert_no_amount(self, text, places):
        with self.assertRaises(NoAmount, msg=repr((text, places))) as caught:
            read_amount(text, places)
        self.assertIs(type(caught.exception), NoAmount, repr(text))
        self.assertIsInstance(caught.exception, SpanError)

    def test_arguments(self):
        self.assertEqual(str(inspect.signature(read_amount)), "(text, places=2)")

    def test_known_amounts(self):
        for amount, places, text in KNOWN:
            self.assertEqual(read_amount(text, places), amount)
            self.assertIs(type(read_amount(text, places)), int)
            if amount > 0:
                self.assertEqual(read_amount("-" + text, places), -amount)

    def test_places_left_out_are_two(self):
        for amount, text in ((1250, "12.50"), (5, "0.05"), (-120, "-1.20"), (0, "0.00"), (-5, "-0.05"), (100, "1.00")):
            self.assertEqual(read_amount(text), amount)
            self.assertEqual(read_amount(text, places=2), amount)
        for text in ("12", "12.5", "12.500", "12.", ".50", "-0.00"):
            with self.assertRaises(NoAmount):
                read_amount(text)

    def test_what_is_written_is_read(self):
        for places in PLACES:
            for amount in AMOUNTS:
                self.assertEqual(read_amount(show_amount(amount, places), places), amount)
                self.assertEqual(read_amount(show_amount(-amount, places), places), -amount)

    def test_written_with_other_places(self):
        for places in PLACES:
            for other in PLACES:
                if other != places:
                    for amount in (0, 1, 5, 10, 100, 1250, 1234567, -1, -1250, FIFTY_FIGURES, -FIFTY_FIGURES):
                        self.assert_no_amount(show_amount(amount, other), places)

    def test_noughts_ahead(self):
        for text in ("00", "01", "007", "-01", "-00", "000"):
            self.assert_no_amount(text, 0)
        for text in ("00.00", "01.00", "007.50", "-01.00", "-00.05", "00.05", "000.00"):
            self.assert_no_amount(text, 2)
        for places in PLACES:
            for amount in (0, 1, 9, 10, 1250, 9999999, -1, -1250, FIFTY_FIGURES):
                text = show_amount(abs(amount), places)
                sign = "-" if amount < 0 else ""
                for noughts in ("0", "00", "0" * 9):
                    self.assert_no_amount(sign + noughts + text, places)

    def test_signs_ahead(self):
        for places in PLACES:
            for amount in (0, 1, 9, 10, 1250, FIFTY_FIGURES):
                text = show_amount(amount, places)
                for sign in ("+", "--", "+-", "-+", "- ", "++", "~", "\u2212"):
                    self.assert_no_amount(sign + text, places)
            self.assert_no_amount("-" + show_amount(0, places), places)

    def test_a_minus_elsewhere(self):
        for text in ("12.50-", "1-2.50", "12-.50", "12.-50", "12.5-0", "-12.50-", "-1-2.50"):
            self.assert_no_amount(text, 2)
        for text in ("5-", "1-5", "-5-", "5--"):
            self.assert_no_amount(text, 0)

    def test_without_figures(self):
        for text in ("", "-", "--", ".", "-.", "..", " ", "\n", "+", "-" * 4000, "." * 4000, " " * 4000, "\n" * 4000):
            for places in PLACES:
                self.assert_no_amount(text, places)

    def test_the_point(self):
        for text in ("0.", "5.", ".5", "-5.", "5.0", "0.0", ".", "1.250"):
            self.assert_no_amount(text, 0)
        for places in PLACES[1:]:
            behind = "1234567"[:places]
            self.assertEqual(read_amount("5." + behind, places), int("5" + behind))
            for text in ("5", "0", "1250", "12345678", "-5", "5.", "-5.", "." + behind, "-." + behind, "0." + behind + "8",
                         "5." + behind[1:], "5." + behind + "0", "5." + behind + ".", ".5." + behind, "5.." + behind,
                         "5." + behind + "." + behind, "5," + behind, "1.5." + behind, "5" + behind + "."):
                self.assert_no_amount(text, places)

    def test_blanks_and_line_ends(self):
        for places in PLACES:
            text = show_amount(-1234567890, places)
            for place in range(len(text) + 1):
                for sign in (" ", "\n", "\r\n", "\t", "  "):
                    self.assert_no_amount(text[:place] + sign + text[place:], places)
            self.assert_no_amount(text + "\n" + text, places)

    def test_another_sign_in_the_place_of_a_figure(self):
        for places in PLACES:
            for text in (show_amount(11111111, places), show_amount(-11111111, places), show_amount(1, places)):
                for place, figure in enumerate(text):
                    for sign in OTHER_SIGNS:
                        # A - in the place of the first figure leaves an amount below 0 where more figures follow it.
                        below = text[:place] == "" and sign == "-" and text[place + 1:place + 2] in tuple("0123456789")
                        if figure in "01" and not below:
                            self.assert_no_amount(text[:place] + sign + text[place + 1:], places)

    def test_other_forms(self):
        for text in ("1e5", "0x10", "1_000", "1,000", "1/2", "five", "None", "nan", "inf", "1L", "(5)", "'5'", "5$", "5 5"):
            for places in PLACES:
                self.assert_no_amount(text, places)

    def test_sixty_figures_and_sixty_one(self):
        for places in PLACES:
            for figures in ("9" * 60, "1" + "0" * 59, "12345" * 12):
                text = show_amount(int(figures), places)
                self.assertEqual(sum(sign in "0123456789" for sign in text), 60)
                self.assertEqual(read_amount(text, places), int(figures))
                self.assertEqual(read_amount("-" + text, places), -int(figures))
                for more in (figures + "0", figures + "7", "1" + figures, figures * 2, figures * 66):
                    text = show_amount(int(more), places)
                    self.assert_no_amount(text, places)
                    self.assert_no_amount("-" + text, places)

    def test_four_thousand_signs(self):
        for places in PLACES:
            for text in ("9" * 4000, "0" * 4000, "-" + "9" * 3999, "0." + "0" * 3998, "1." + "2" * 3998, "-1" * 2000,
                         "1." * 2000, "1" + "-" * 3999, "-" * 3999 + "1", "." * 3999 + "1", "5" * 9000):
                self.assert_no_amount(text, places)


if __name__ == "__main__":
    unittest.main()
