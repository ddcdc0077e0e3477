"""The days of an account and its spans (points 3, 10)."""

import unittest

from paidspan.accountdays import end_of_account, is_day_of, span_days, span_with
from paidspan.errors import NoSpan, TooLong

SIXTY_FIGURES = 10 ** 59
PLANS = [("basic", 1250, 0)]

# An account, and the end of its span 59.
ACCOUNTS = (
    ((PLANS, 0, ("days", 1)), 60), ((PLANS, 7, ("days", 400)), 24007), ((PLANS, 0, ("months", 12)), 21915),
    ((PLANS, 738915, ("months", 1)), 740742), ((PLANS, 3500000, ("days", 400)), 3524000))


class AccountDays(unittest.TestCase):
    def test_the_end(self):
        for account, end in ACCOUNTS:
            self.assertEqual(end_of_account(account), end)

    def test_days(self):
        for account, end in ACCOUNTS:
            first = account[1]
            for day in (first, first + 1, (first + end) // 2, end - 2, end - 1):
                self.assertIs(is_day_of(account, day), True)
            for value in (first - 1, first - 2, end, end + 1, SIXTY_FIGURES, -SIXTY_FIGURES, "", "1", True, False):
                self.assertIs(is_day_of(account, value), False)

    def test_spans(self):
        for account, end in ACCOUNTS:
            begin = account[1]
            for k in range(60):
                span = span_days(account, k)
                self.assertEqual(span[0], begin)
                begin = span[1]
                for day in (span[0], span[1] - 1):
                    self.assertEqual(span_with(account, day), (k,) + span)
            self.assertEqual(begin, end)

    def test_no_spans(self):
        for account, end in ACCOUNTS:
            for asked, number in ((span_days, -1), (span_days, -SIXTY_FIGURES), (span_with, account[1] - 1)):
                self.assertRaises(NoSpan, asked, account, number)
            for asked, number in ((span_days, 60), (span_days, 61), (span_days, SIXTY_FIGURES), (span_with, end)):
                self.assertRaises(TooLong, asked, account, number)


if __name__ == "__main__":
    unittest.main()
