"""Days in a month, dates and the numbers of days, steps by months (point 5)."""

import datetime
import unittest

from paidspan.dates import date_of, day_of, days_in, months_on
from paidspan.errors import NoDate, SpanError

LAST_DAY = 3652058
SIXTY_FIGURES = 10 ** 59
# More figures than Python writes out by itself: no refusal may try to.
MANY_FIGURES = 10 ** 5000

COMMON = (31, 28, 31, 30, 31, 30, 31, 31, 30, 31, 30, 31)
LEAP = (31, 29, 31, 30, 31, 30, 31, 31, 30, 31, 30, 31)
COMMON_YEARS = (1, 2, 3, 5, 99, 100, 101, 200, 300, 500, 1700, 1800, 1900, 2001, 2023, 2100, 9900, 9998, 9999)
LEAP_YEARS = (4, 8, 96, 104, 400, 800, 1200, 1600, 1996, 2000, 2004, 2024, 2400, 9600, 9996)
NO_YEARS = (0, -1, -4, -400, 10000, 10001, 12000, SIXTY_FIGURES, -SIXTY_FIGURES, MANY_FIGURES, -MANY_FIGURES)
NO_MONTHS = (0, -1, -11, -12, 13, 14, 24, 25, SIXTY_FIGURES, -SIXTY_FIGURES, MANY_FIGURES, -MANY_FIGURES)
NO_NUMBERS = (-1, -2, -366, -LAST_DAY, LAST_DAY + 1, LAST_DAY + 2, LAST_DAY + 366, 2 * LAST_DAY,
              SIXTY_FIGURES, -SIXTY_FIGURES, MANY_FIGURES, -MANY_FIGURES)


def number_of(year, month, day):
    """The day's number, reckoned apart from the program."""
    return datetime.date(year, month, day).toordinal() - 1


def date_by_number(number):
    """The date of a number, reckoned apart from the program."""
    date = datetime.date.fromordinal(number + 1)
    return (date.year, date.month, date.day)


def last_of_month(year, month):
    """How many days the month has, by the words of the document."""
    leap = year % 400 == 0 or (year % 4 == 0 and year % 100 != 0)
    return (LEAP if leap else COMMON)[month - 1]


class Case(unittest.TestCase):
    def assert_no_date(self, asked, *handed):
        # The figures' count in place of the number: a message can't hold all of it.
        with self.assertRaises(NoDate, msg=[value.bit_length() for value in handed]) as caught:
            asked(*handed)
        self.assertIs(type(caught.exception), NoDate)
        self.assertIsInstance(caught.exception, SpanError)

    def assert_whole(self, value):
        self.assertIs(type(value), int)


class DaysIn(Case):
    def test_years_without_a_leap_day(self):
        for year in COMMON_YEARS:
            self.assertEqual(tuple(days_in(year, month) for month in range(1, 13)), COMMON, year)

    def test_years_with_a_leap_day(self):
        for year in LEAP_YEARS:
            self.assertEqual(tuple(days_in(year, month) for month in range(1, 13)), LEAP, year)

    def test_every_month_of_every_year(self):
        for year in range(1, 10000):
            for month in range(1, 13):
                if days_in(year, month) != last_of_month(year, month):
                    self.fail((year, month, days_in(year, month)))

    def test_is_a_whole_number(self):
        for year in (1, 2000, 2023, 2024):
            for month in range(1, 13):
                self.assert_whole(days_in(year, month))

    def test_no_such_year(self):
        for year in NO_YEARS:
            for month in range(1, 13):
                self.assert_no_date(days_in, year, month)

    def test_no_such_month(self):
        for month in NO_MONTHS:
            for year in (1, 4, 1900, 2000, 2023, 2024, 9999):
                self.assert_no_date(days_in, year, month)

    def test_neither_year_nor_month(self):
        for year in NO_YEARS:
            for month in NO_MONTHS:
                self.assert_no_date(days_in, year, month)


class DayOf(Case):
    def test_first_and_last_day(self):
        self.assertEqual(day_of(1, 1, 1), 0)
        self.assertEqual(day_of(1, 1, 2), 1)
        self.assertEqual(day_of(9999, 12, 30), LAST_DAY - 1)
        self.assertEqual(day_of(9999, 12, 31), LAST_DAY)

    def test_known_days(self):
        self.assertEqual(day_of(1, 12, 31), 364)
        self.assertEqual(day_of(2, 1, 1), 365)
        self.assertEqual(day_of(4, 12, 31), 1460)
        self.assertEqual(day_of(1970, 1, 1), 719162)
        self.assertEqual(day_of(2024, 2, 29), 738944)

    def test_first_and_last_of_every_month(self):
        for year in range(1, 10000):
            for month in range(1, 13):
                first = number_of(year, month, 1)
                last = last_of_month(year, month)
                if day_of(year, month, 1) != first or day_of(year, month, last) != first + last - 1:
                    self.fail((year, month))

    def test_no_such_day_in_any_month(self):
        for year in (1, 4, 100, 400, 1900, 2000, 2023, 2024, 9996, 9999):
            for month in range(1, 13):
                last = last_of_month(year, month)
                days = (0, -1, -last, last + 1, last + 2, 32, 60, 366)
                for day in days + (SIXTY_FIGURES, -SIXTY_FIGURES, MANY_FIGURES, -MANY_FIGURES):
                    self.assert_no_date(day_of, year, month, day)

    def test_no_leap_day(self):
        for year in COMMON_YEARS:
            self.assert_no_date(day_of, year, 2, 29)
        for year in LEAP_YEARS:
            self.assertEqual(day_of(year, 2, 29), number_of(year, 2, 28) + 1)
            self.assert_no_date(day_of, year, 2, 30)

    def test_no_such_year_or_month(self):
        for year in NO_YEARS:
            for month, day in ((1, 1), (2, 29), (12, 31), (0, 1), (13, 0)):
                self.assert_no_date(day_of, year, month, day)
        for month in NO_MONTHS:
            for day in (0, 1, 28, 31, SIXTY_FIGURES, -SIXTY_FIGURES):
                self.assert_no_date(day_of, 2024, month, day)


class DateOf(Case):
    def test_first_and_last_day(self):
        self.assertEqual(date_of(0), (1, 1, 1))
        self.assertEqual(date_of(LAST_DAY), (9999, 12, 31))
        self.assertEqual(date_of(LAST_DAY - 1), (9999, 12, 30))

    def test_known_days(self):
        self.assertEqual(date_of(719162), (1970, 1, 1))
        self.assertEqual(date_of(738944), (2024, 2, 29))
        self.assertEqual(date_of(146096), (400, 12, 31))
        self.assertEqual(date_of(146097), (401, 1, 1))

    def test_no_such_number(self):
        for number in NO_NUMBERS:
            self.assert_no_date(date_of, number)

    def test_is_a_tuple_of_three_whole_numbers(self):
        for number in (0, 1, 738944, LAST_DAY):
            date = date_of(number)
            self.assertIs(type(date), tuple)
            self.assertEqual(len(date), 3)
            for value in date:
                self.assert_whole(value)
            self.assert_whole(day_of(*date))


class ThereAndBack(Case):
    def check_run(self, begin, end):
        for number in range(begin, end):
            date = date_of(number)
            if date != date_by_number(number) or day_of(*date) != number:
                self.fail((number, date, day_of(*date)))

    def test_the_first_and_the_last_years(self):
        self.check_run(0, 4000)
        self.check_run(LAST_DAY - 4000, LAST_DAY + 1)

    def test_across_the_turns_of_centuries(self):
        for year in range(100, 10000, 100):
            turn = number_of(year, 1, 1)
            self.check_run(turn - 100, turn + 500)

    def test_whole_years_round_some_centuries(self):
        for year in (100, 400, 1700, 1900, 2000, 2100, 2400, 9900):
            self.check_run(number_of(year - 5, 1, 1), number_of(year + 6, 1, 1))

    def test_across_the_turn_of_every_year(self):
        for year in range(2, 10000):
            turn = number_of(year, 1, 1)
            self.check_run(turn - 2, turn + 2)

    def test_days_of_all_times(self):
        self.check_run(730000, 745000)
        for begin in range(0, LAST_DAY, 997):
            self.check_run(begin, begin + 1)


class MonthsOn(Case):
    def check(self, date, many, to):
        self.assertEqual(date_of(months_on(day_of(*date), many)), to, (date, many))

    def test_none(self):
        for number in list(range(730000, 731500)) + [0, 1, LAST_DAY - 1, LAST_DAY]:
            self.assertEqual(months_on(number, 0), number)

    def test_into_february(self):
        for day in (28, 29, 30, 31):
            self.check((2023, 1, day), 1, (2023, 2, 28))
            self.check((2024, 1, day), 1, (2024, 2, min(day, 29)))
            self.check((1900, 1, day), 1, (1900, 2, 28))
            self.check((2000, 1, day), 1, (2000, 2, min(day, 29)))
            self.check((2023, 3, day), -1, (2023, 2, 28))
            self.check((2024, 3, day), -1, (2024, 2, min(day, 29)))
            self.check((2023, 12, day), 2, (2024, 2, min(day, 29)))
            self.check((2023, 12, day), -22, (2022, 2, 28))

    def test_from_the_leap_day(self):
        self.check((2024, 2, 29), 1, (2024, 3, 29))
        self.check((2024, 2, 29), 12, (2025, 2, 28))
        self.check((2024, 2, 29), -12, (2023, 2, 28))
        self.check((2024, 2, 29), 48, (2028, 2, 29))
        self.check((2096, 2, 29), 48, (2100, 2, 28))
        self.check((2096, 2, 29), 96, (2104, 2, 29))

    def test_from_the_last_of_a_month_that_is_shorter(self):
        self.check((2023, 2, 28), 1, (2023, 3, 28))
        self.check((2023, 4, 30), 1, (2023, 5, 30))
        self.check((2023, 5, 31), 1, (2023, 6, 30))
        self.check((2023, 5, 31), 2, (2023, 7, 31))
        self.check((2023, 7, 31), 1, (2023, 8, 31))

    def test_across_the_turn_of_a_year(self):
        self.check((2023, 12, 31), 1, (2024, 1, 31))
        self.check((2024, 1, 31), -1, (2023, 12, 31))
        self.check((2023, 11, 30), 1, (2023, 12, 30))
        self.check((2023, 12, 1), 12, (2024, 12, 1))
        self.check((2023, 12, 1), -12, (2022, 12, 1))
        self.check((2023, 12, 15), -11, (2023, 1, 15))

    def test_over_many_years(self):
        for date in ((1600, 1, 31), (1999, 12, 30), (2024, 2, 29), (2024, 2, 28), (5000, 7, 1)):
            year, month, day = date
            for many in range(-18000, 36001, 7):
                months = (year - 1) * 12 + month - 1 + many
                to_year, to_month = 1 + months // 12, 1 + months % 12
                if 1 <= to_year <= 9999:
                    self.check(date, many, (to_year, to_month, min(day, last_of_month(to_year, to_month))))
                else:
                    self.assert_no_date(months_on, day_of(*date), many)

    def test_up_to_the_first_and_the_last_month(self):
        self.check((1, 1, 31), 9998 * 12 + 11, (9999, 12, 31))
        self.check((9999, 12, 31), -(9998 * 12 + 11), (1, 1, 31))
        self.check((9999, 12, 31), -(9998 * 12 + 10), (1, 2, 28))
        self.check((1, 2, 28), -1, (1, 1, 28))
        self.check((9999, 11, 30), 1, (9999, 12, 30))

    def test_no_such_month(self):
        whole = 9998 * 12 + 11
        for day in (1, 28, 31):
            for many in (-1, -2, -12, -13, whole + 1, whole + 13):
                self.assert_no_date(months_on, day_of(1, 1, day), many)
            for many in (1, 2, 12, 13, -whole - 1, -whole - 13):
                self.assert_no_date(months_on, day_of(9999, 12, day), many)
        for number in (0, 738944, LAST_DAY):
            for many in (SIXTY_FIGURES, -SIXTY_FIGURES, MANY_FIGURES, -MANY_FIGURES):
                self.assert_no_date(months_on, number, many)

    def test_no_such_number(self):
        for number in NO_NUMBERS:
            for many in (0, 1, -1, 1200, -1200, SIXTY_FIGURES, -SIXTY_FIGURES):
                self.assert_no_date(months_on, number, many)

    def test_is_a_whole_number(self):
        for many in (-24000, -1, 0, 1, 24000):
            self.assert_whole(months_on(738944, many))


if __name__ == "__main__":
    unittest.main()
