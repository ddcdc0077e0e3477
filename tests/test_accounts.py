"""Accounts, and what is none (point 11)."""

import copy
import inspect
import unittest

from paidspan.accounts import check_account
from paidspan.errors import NoAccount, SpanError

SIXTY_FIGURES = 10 ** 59
# More figures than Python writes out by itself: no refusal may try to.
MANY_FIGURES = 10 ** 5000
THIRTY_FIGURES = 10 ** 30 - 1

NAMES = ("a", "b", "z", "ab", "basic", "abcdefgh", "zzzzzzzz", "stuvwxyz")
# Letters of other scripts are none here.
NO_NAMES = ("", "abcdefghi", "a" * 4000, "A", "Basic", "basiC", "BASIC", "a1", "1", "7a", "a b", " a", "a ", " ", "a\n",
            "\n", "a-b", "a_b", "_", "a.b", "-", "`", "{", "@", "[", "a~", "\u00e4", "a\u00df", "\u0430", "\uff41",
            0, 1, -1, 97, SIXTY_FIGURES, MANY_FIGURES)
PRICES = (0, 1, 9, 1250, 10 ** 29, THIRTY_FIGURES - 1, THIRTY_FIGURES)
NO_PRICES = (-1, -2, -1250, -THIRTY_FIGURES, 10 ** 30, 10 ** 30 + 1, SIXTY_FIGURES, -SIXTY_FIGURES, MANY_FIGURES,
             -MANY_FIGURES, "", "0", "1250", "12.50", "basic", True, False)
COUNTS = (0, 1, 2, 28, 30, 31, 365, 399, 400)
NO_COUNTS = (-1, -2, -400, 401, 402, 1000, SIXTY_FIGURES, -SIXTY_FIGURES, MANY_FIGURES, -MANY_FIGURES,
             "", "0", "30", "days", True, False)
FIRSTS = (0, 1, 738944, 3499999, 3500000)
NO_FIRSTS = (-1, -2, -3500000, 3500001, 3500002, 3652058, 3652059, SIXTY_FIGURES, -SIXTY_FIGURES, MANY_FIGURES,
             -MANY_FIGURES)
CYCLES = tuple(("days", many) for many in (1, 2, 30, 31, 399, 400)) + tuple(("months", many) for many in range(1, 13))
NO_CYCLES = ((), ("days",), ("months",), (30,), (1, 2), ("days", 30, 1), ("months", 1, 1), ("days", "days", 1),
             ("days", 30, "months", 1), (30, "days"), (1, "months"), ("days", "30"), ("months", "1"), ("days", "days"),
             ("days", ""), ("months", "months"), ("day", 30), ("month", 1), ("Days", 30), ("MONTHS", 1), ("weeks", 1),
             ("years", 1), ("", 1), (" days", 30), ("days ", 30), ("days\n", 30), ("months ", 1), ("days", 0),
             ("days", -1), ("days", -30), ("days", 401), ("days", 402), ("months", 0), ("months", -1), ("months", -12),
             ("months", 13), ("months", 14), ("months", 30), ("months", 400), ("days", SIXTY_FIGURES),
             ("days", -SIXTY_FIGURES), ("months", SIXTY_FIGURES), ("months", -SIXTY_FIGURES), ("days", MANY_FIGURES),
             ("months", -MANY_FIGURES), (MANY_FIGURES, 1), ("days", True), ("months", True))
PLAN = ("basic", 1250, 30)
FIRST = 738944
MONTHLY = ("months", 1)


def plans_of(many):
    return [("abcdefghijk"[place], 100 * place, 0) for place in range(many)]


class Accounts(unittest.TestCase):
    def assert_account(self, account):
        kept = copy.deepcopy(account)
        self.assertIsNone(check_account(account), account)
        self.assertEqual(account, kept)

    def assert_no_account(self, account):
        kept = copy.deepcopy(account)
        with self.assertRaises(NoAccount) as caught:
            check_account(account)
        self.assertIs(type(caught.exception), NoAccount)
        self.assertIsInstance(caught.exception, SpanError)
        self.assertEqual(account, kept)

    def assert_no_plan(self, plan):
        """Wherever it stands among others."""
        others = plans_of(7)
        self.assert_no_account(([plan], FIRST, MONTHLY))
        for place in (0, 3, 7):
            self.assert_no_account((others[:place] + [plan] + others[place:], FIRST, MONTHLY))

    def test_arguments(self):
        self.assertEqual(str(inspect.signature(check_account)), "(account)")

    def test_one_to_eight_plans(self):
        for many in range(1, 9):
            self.assert_account((plans_of(many), FIRST, MONTHLY))

    def test_no_plan_and_too_many(self):
        self.assert_no_account(([], FIRST, MONTHLY))
        for many in (9, 10, 11):
            self.assert_no_account((plans_of(many), FIRST, MONTHLY))
        self.assert_no_account(([PLAN] * 1000, FIRST, MONTHLY))

    def test_names(self):
        for name in NAMES:
            self.assert_account(([(name, 1250, 30)], FIRST, MONTHLY))
        self.assert_account(([(name, 1250, 30) for name in NAMES], FIRST, MONTHLY))
        for letter in "abcdefghijklmnopqrstuvwxyz":
            self.assert_account(([(letter, 1250, 30)], FIRST, MONTHLY))

    def test_no_names(self):
        for name in NO_NAMES:
            self.assert_no_plan((name, 1250, 30))

    def test_each_other_sign_in_a_name(self):
        for number in range(300):
            if not 97 <= number <= 122:
                for name in (chr(number), "a" + chr(number), chr(number) + "a", "a" + chr(number) + "a"):
                    self.assert_no_account(([(name, 1250, 30)], FIRST, MONTHLY))

    def test_two_of_one_name(self):
        self.assert_no_account(([PLAN, PLAN], FIRST, MONTHLY))
        self.assert_no_account(([("a", 1, 0), ("a", 2, 30)], FIRST, MONTHLY))
        for one in range(8):
            for other in range(one):
                plans = plans_of(8)
                plans[one] = (plans[other][0], 5, 7)
                self.assert_no_account((plans, FIRST, MONTHLY))
        self.assert_account(([("a", 1, 0), ("aa", 1, 0), ("b", 1, 0), ("ab", 1, 0), ("ba", 1, 0)], FIRST, MONTHLY))

    def test_plans_of_other_lengths(self):
        for plan in ((), ("basic",), ("basic", 1250), ("basic", 1250, 30, 0), ("basic", 1250, 30, "a", 1), (1250,), (30, 30),
                     ("basic", 0, 0, 0), ("basic", "basic", 1250, 30)):
            self.assert_no_plan(plan)

    def test_plans_with_texts_and_numbers_exchanged(self):
        for plan in ((1250, "basic", 30), (1250, 30, "basic"), ("basic", "basic", 30), ("basic", 1250, "basic"),
                     (1250, 1250, 30), ("a", "a", "a"), (0, 0, 0)):
            self.assert_no_plan(plan)

    def test_prices(self):
        for price in PRICES:
            self.assert_account(([("basic", price, 30)], FIRST, MONTHLY))
        for price in NO_PRICES:
            self.assert_no_plan(("basic", price, 30))

    def test_counts(self):
        for count in COUNTS:
            self.assert_account(([("basic", 1250, count)], FIRST, MONTHLY))
        for count in NO_COUNTS:
            self.assert_no_plan(("basic", 1250, count))

    def test_first_days(self):
        for cycle in (("days", 1), ("days", 400), ("months", 1), ("months", 12)):
            for first in FIRSTS:
                self.assert_account(([PLAN], first, cycle))
            for first in NO_FIRSTS:
                self.assert_no_account(([PLAN], first, cycle))

    def test_cycles(self):
        for first in (0, FIRST, 3500000):
            for cycle in CYCLES:
                self.assert_account(([PLAN], first, cycle))
            for cycle in NO_CYCLES:
                self.assert_no_account(([PLAN], first, cycle))

    def test_more_than_one_thing_wrong(self):
        self.assert_no_account(([], -1, ()))
        self.assert_no_account(([()], 3500001, ("weeks", 0)))
        self.assert_no_account(([("", -1, 401)] * 9, FIRST, MONTHLY))

    def test_nothing_is_kept_of_an_account(self):
        account = ([PLAN], FIRST, MONTHLY)
        for turn in range(3):
            self.assert_account(account)
        account[0].append(PLAN)
        self.assert_no_account(account)
        account[0].pop()
        self.assert_account(account)


if __name__ == "__main__":
    unittest.main()
