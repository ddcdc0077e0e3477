"""Where spans begin, and the span in which a day lies (point 10)."""

import calendar
import datetime
import inspect
import unittest

from paidspan.cycles import begin_of, span_on
from paidspan.dates import date_of, day_of
from paidspan.errors import NoSpan, SpanError, TooLong

SIXTY_FIGURES = 10 ** 59
# More figures than Python writes out by itself: no refusal may try to.
MANY_FIGURES = 10 ** 5000

DAY_CYCLES = (("days", 1), ("days", 2), ("days", 7), ("days", 30), ("days", 31), ("days", 399), ("days", 400))
MONTH_CYCLES = (("months", 1), ("months", 2), ("months", 3), ("months", 5), ("months", 11), ("months", 12))
CYCLES = DAY_CYCLES + MONTH_CYCLES


def number_of(year, month, day):
    """The day's number, reckoned apart from the program."""
    return datetime.date(year, month, day).toordinal() - 1


FIRSTS = (0, 1, 3499999, 3500000) + tuple(number_of(*date) for date in (
    (2024, 1, 31), (2023, 1, 31), (2024, 1, 30), (2023, 1, 30), (2024, 1, 29), (2024, 2, 29), (2096, 2, 29),
    (2023, 2, 28), (2024, 2, 28), (2023, 12, 31), (1999, 12, 31), (2024, 7, 15), (2024, 3, 1), (2024, 4, 30)))


def begin_apart(first, cycle, k):
    """Where span k begins, reckoned apart from the program."""
    word, many = cycle
    if word == "days":
        return first + k * many
    date = datetime.date.fromordinal(first + 1)
    year, month = divmod(date.year * 12 + date.month - 1 + k * many, 12)
    return number_of(year, month + 1, min(date.day, calendar.monthrange(year, month + 1)[1]))


class Case(unittest.TestCase):
    def assert_refused(self, refusal, asked, first, cycle, number):
        with self.assertRaises(refusal, msg=(first, cycle, number.bit_length())) as caught:
            asked(first, cycle, number)
        self.assertIs(type(caught.exception), refusal)
        self.assertIsInstance(caught.exception, SpanError)


class BeginOf(Case):
    def test_arguments(self):
        self.assertEqual(str(inspect.signature(begin_of)), "(first, cycle, k)")

    def test_every_span_and_the_end_of_the_last(self):
        for first in FIRSTS:
            for cycle in CYCLES:
                for k in range(61):
                    begin = begin_of(first, cycle, k)
                    self.assertEqual(begin, begin_apart(first, cycle, k), (first, cycle, k))
                    self.assertIs(type(begin), int)

    def test_span_nought_begins_on_the_first_day(self):
        for first in FIRSTS:
            for cycle in CYCLES:
                self.assertEqual(begin_of(first, cycle, 0), first)

    def check_dates(self, date, cycle, told):
        first = day_of(*date)
        self.assertEqual([date_of(begin_of(first, cycle, k)) for k in range(len(told))], told)

    def test_known_dates(self):
        self.check_dates((2024, 1, 31), ("months", 1), [
            (2024, 1, 31), (2024, 2, 29), (2024, 3, 31), (2024, 4, 30), (2024, 5, 31), (2024, 6, 30), (2024, 7, 31)])
        self.check_dates((2023, 1, 30), ("months", 1), [(2023, 1, 30), (2023, 2, 28), (2023, 3, 30), (2023, 4, 30)])
        self.check_dates((2024, 2, 29), ("months", 12), [
            (2024, 2, 29), (2025, 2, 28), (2026, 2, 28), (2027, 2, 28), (2028, 2, 29)])
        self.check_dates((2023, 2, 28), ("months", 1), [(2023, 2, 28), (2023, 3, 28), (2023, 4, 28)])
        self.check_dates((2023, 12, 31), ("months", 5), [(2023, 12, 31), (2024, 5, 31), (2024, 10, 31), (2025, 3, 31)])
        self.check_dates((2023, 12, 31), ("months", 2), [(2023, 12, 31), (2024, 2, 29), (2024, 4, 30), (2024, 6, 30)])
        self.check_dates((2024, 2, 1), ("days", 30), [(2024, 2, 1), (2024, 3, 2), (2024, 4, 1), (2024, 5, 1)])

    def test_known_numbers(self):
        self.assertEqual(begin_of(0, ("days", 1), 60), 60)
        self.assertEqual(begin_of(3500000, ("days", 400), 60), 3524000)
        self.assertEqual(begin_of(0, ("months", 12), 60), 21915)
        self.assertEqual(begin_of(0, ("months", 1), 1), 31)

    def test_numbers_below_nought(self):
        for first in FIRSTS:
            for cycle in CYCLES:
                for k in (-1, -2, -60, -61, -SIXTY_FIGURES, -MANY_FIGURES):
                    self.assert_refused(NoSpan, begin_of, first, cycle, k)

    def test_numbers_above_sixty(self):
        for first in FIRSTS:
            for cycle in CYCLES:
                for k in (61, 62, 100, 1000000, SIXTY_FIGURES, MANY_FIGURES):
                    self.assert_refused(TooLong, begin_of, first, cycle, k)


class SpanOn(Case):
    def test_arguments(self):
        self.assertEqual(str(inspect.signature(span_on)), "(first, cycle, day)")

    def test_first_and_last_day_of_every_span(self):
        for first in FIRSTS:
            for cycle in CYCLES:
                for k in range(60):
                    begin, end = begin_apart(first, cycle, k), begin_apart(first, cycle, k + 1)
                    for day in (begin, (begin + end) // 2, end - 1):
                        self.assertEqual(span_on(first, cycle, day), (k, begin, end), (first, cycle, day))

    def test_every_day(self):
        for first in (0, 3500000, number_of(2023, 12, 31), number_of(2024, 1, 31)):
            for cycle in (("days", 1), ("days", 2), ("days", 31), ("months", 1)):
                for k in range(60):
                    begin, end = begin_apart(first, cycle, k), begin_apart(first, cycle, k + 1)
                    for day in range(begin, end):
                        self.assertEqual(span_on(first, cycle, day), (k, begin, end), (first, cycle, day))

    def test_known_spans(self):
        first = day_of(2024, 1, 31)
        for date, told in (((2024, 1, 31), (0, (2024, 1, 31), (2024, 2, 29))),
                           ((2024, 2, 28), (0, (2024, 1, 31), (2024, 2, 29))),
                           ((2024, 2, 29), (1, (2024, 2, 29), (2024, 3, 31))),
                           ((2024, 3, 30), (1, (2024, 2, 29), (2024, 3, 31))),
                           ((2024, 3, 31), (2, (2024, 3, 31), (2024, 4, 30))),
                           ((2029, 1, 30), (59, (2028, 12, 31), (2029, 1, 31)))):
            k, begin, end = span_on(first, ("months", 1), day_of(*date))
            self.assertEqual((k, date_of(begin), date_of(end)), told)

    def test_is_a_tuple_of_three_whole_numbers(self):
        for cycle in (("days", 30), ("months", 5)):
            told = span_on(738944, cycle, 739000)
            self.assertIs(type(told), tuple)
            self.assertEqual([type(value) for value in told], [int, int, int])

    def test_ahead_of_the_first_day(self):
        for first in FIRSTS:
            for cycle in CYCLES:
                for day in (first - 1, first - 2, first - 400, -1 - first, -SIXTY_FIGURES, -MANY_FIGURES):
                    self.assert_refused(NoSpan, span_on, first, cycle, day)

    def test_behind_the_last_span(self):
        for first in FIRSTS:
            for cycle in CYCLES:
                end = begin_apart(first, cycle, 60)
                self.assertEqual(span_on(first, cycle, end - 1), (59, begin_apart(first, cycle, 59), end))
                for day in (end, end + 1, end + 400, 3652058, 3652059, SIXTY_FIGURES, MANY_FIGURES):
                    self.assert_refused(TooLong, span_on, first, cycle, day)


if __name__ == "__main__":
    unittest.main()
