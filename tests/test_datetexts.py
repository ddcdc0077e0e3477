"""Days written as dates, and texts read so (point 6)."""

import unittest

from paidspan.dates import day_of
from paidspan.datetexts import read_date, show_date
from paidspan.errors import NoDate

LAST_DAY = 3652058
SIXTY_FIGURES = 10 ** 59
KNOWN = (
    (0, "0001-01-01"),
    (364, "0001-12-31"),
    (365, "0002-01-01"),
    (day_of(9, 10, 11), "0009-10-11"),
    (day_of(10, 9, 8), "0010-09-08"),
    (day_of(99, 12, 31), "0099-12-31"),
    (day_of(100, 2, 28), "0100-02-28"),
    (day_of(999, 11, 30), "0999-11-30"),
    (day_of(1000, 1, 1), "1000-01-01"),
    (719162, "1970-01-01"),
    (738944, "2024-02-29"),
    (LAST_DAY, "9999-12-31"),
)


class Case(unittest.TestCase):
    def assert_no_date(self, text):
        with self.assertRaises(NoDate, msg=repr(text)) as caught:
            read_date(text)
        self.assertIs(type(caught.exception), NoDate, repr(text))


class ShowDate(Case):
    def test_known_days(self):
        for number, text in KNOWN:
            self.assertEqual(show_date(number), text)
            self.assertIs(type(show_date(number)), str)

    def test_no_such_number(self):
        for number in (-1, LAST_DAY + 1, SIXTY_FIGURES, -SIXTY_FIGURES):
            with self.assertRaises(NoDate):
                show_date(number)


class ReadDate(Case):
    def test_known_days(self):
        for number, text in KNOWN:
            self.assertEqual(read_date(text), number)
            self.assertIs(type(read_date(text)), int)

    def test_what_is_written_is_read(self):
        for begin in (0, 36000, 145900, 364500, 738000, LAST_DAY - 800):
            for number in range(begin, begin + 801):
                self.assertEqual(read_date(show_date(number)), number)
        for number in range(0, LAST_DAY + 1, 1009):
            self.assertEqual(read_date(show_date(number)), number)

    def test_a_sign_less_or_more_anywhere(self):
        for text in ("2024-02-29", "0001-01-01", "9999-12-31", "2011-11-11"):
            for place in range(len(text)):
                self.assert_no_date(text[:place] + text[place + 1:])
            for place in range(len(text) + 1):
                for sign in "0123456789-+ \n\t_./TZ":
                    self.assert_no_date(text[:place] + sign + text[place:])

    def test_another_sign_in_the_place_of_a_figure(self):
        # Figures of other scripts are no figures here, though Python's int takes them.
        signs = "-+ \n\r\t_.,:/aOlZ~!$\u0661\u0967\uff11\u00b2\u2460"
        for text in ("2024-02-29", "0001-01-01", "1111-11-11"):
            for place in (0, 1, 2, 3, 5, 6, 8, 9):
                for sign in signs:
                    self.assert_no_date(text[:place] + sign + text[place + 1:])

    def test_another_mark_between(self):
        for mark in "/. :_+0\n\u2010\u2212":
            self.assert_no_date(f"2024{mark}02-29")
            self.assert_no_date(f"2024-02{mark}29")
            self.assert_no_date(f"2024{mark}02{mark}29")

    def test_signs_ahead_behind_and_within(self):
        for sign in ("-", "+", " ", "\n", "\r\n", "  "):
            self.assert_no_date(sign + "2024-02-29")
            self.assert_no_date("2024-02-29" + sign)
            self.assert_no_date("2024-" + sign + "02-29")
            self.assert_no_date("2024-02" + sign + "-29")
            self.assert_no_date(sign + "024-02-29")
            self.assert_no_date("2024-" + sign + "2-29")
            self.assert_no_date("2024-02-" + sign)

    def test_ten_signs_that_int_would_read(self):
        for text in (" 024-02-29", "+024-02-29", "-024-02-29", "2_24-02-29", "2024-+2-29", "2024- 2-29", "2024-2 -29",
                     "2024-02-9 ", "2024-02-9\n", "2024-02-+9", "202 -02-29", "2024--2-29", "2024-02--9"):
            self.assertEqual(len(text), 10)
            self.assert_no_date(text)

    def test_other_forms(self):
        for text in ("", " ", "-", "--", "\n", "0", "20240229", "2024-2-29", "24-02-29", "2024-02", "2024", "2024-02-9",
                     "29-02-2024", "02-29-2024", "02024-02-29", "12024-02-29", "2024-060", "2024-W09-4", "----------",
                     "0000000000", "          ", "YYYY-MM-DD", "2024-02-29 2024-02-29", "2024-02-29\n2024-02-29",
                     "9" * 4000, "2024-02-29" * 400, "\n" * 4000, "-" * 4000):
            self.assert_no_date(text)

    def test_of_no_date(self):
        for text in ("0000-00-00", "0000-01-01", "0000-02-29", "0000-12-31", "2024-00-01", "2024-13-01", "2024-99-01",
                     "2024-01-00", "2024-12-00", "2024-12-99", "2024-00-00", "9999-13-31", "9999-12-32"):
            self.assert_no_date(text)

    def test_behind_the_last_day_of_a_month(self):
        lasts = (31, 28, 31, 30, 31, 30, 31, 31, 30, 31, 30, 31)
        for month, last in enumerate(lasts, start=1):
            start = f"2023-{month:02}-"
            self.assertEqual(read_date(f"{start}{last:02}"), day_of(2023, month, last))
            self.assert_no_date(f"{start}{last + 1:02}")
            self.assert_no_date(f"{start}00")

    def test_leap_days(self):
        for year in (4, 104, 400, 1996, 2000, 2024, 9996):
            self.assertEqual(read_date(f"{year:04}-02-29"), day_of(year, 2, 29))
            self.assert_no_date(f"{year:04}-02-30")
        for year in (1, 100, 200, 1900, 2023, 2100, 9999):
            self.assert_no_date(f"{year:04}-02-29")


if __name__ == "__main__":
    unittest.main()
