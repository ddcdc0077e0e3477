"""Forms of lines and rows, and the numbers in them (points 25, 26, 27)."""

import unittest

from paidspan.forms import fits_form, fits_word, is_number


class Numbers(unittest.TestCase):
    def test_at_most_nine_figures_without_noughts_ahead(self):
        for word in ("0", "1", "9", "10", "400", "1000000", "100000000", "999999999"):
            self.assertIs(is_number(word), True, word)
        for word in ("", " ", "00", "01", "0000000001", "1000000000", "1" * 5000, "-1", "+1", "1.0", "1_0", "x", "1x",
                     "1 ", "1\n"):
            self.assertIs(is_number(word), False, word)


class Forms(unittest.TestCase):
    def test_words(self):
        for kind, word in (("DATE", ""), ("NAME", "from"), ("N", "7"), ("from", "from")):
            self.assertIs(fits_word(kind, word), True)
        for kind, word in (("N", "07"), ("N", ""), ("N", "N"), ("from", "From"), ("from", ""), ("from", "from ")):
            self.assertIs(fits_word(kind, word), False)

    def test_forms(self):
        form = "DATE seats N from TO"
        for words in (["", "seats", "0", "from", ""], ["seats", "seats", "5", "from", "from"]):
            self.assertIs(fits_form(form, words), True)
        for words in ([""], ["", "seats", "0", "from"], ["", "seats", "0", "from", "", ""], ["", "seats", "x", "from", ""],
                      ["", "plan", "0", "from", ""], ["", "seats", "0", "to", ""]):
            self.assertIs(fits_form(form, words), False)


if __name__ == "__main__":
    unittest.main()
