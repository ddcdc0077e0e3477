"""The book: its lines, its sums, what is owed (points 19 to 22, and 2, 4, 10 as far as they speak of them)."""

import calendar
import copy
import datetime
import fractions
import inspect
import random
import unittest

from paidspan.books import book_lines, book_sums, owed
from paidspan.charges import earned, span_cost
from paidspan.entries import check_entries, terms_at
from paidspan.errors import NoSpan, SpanError, TooLong

SIXTY_FIGURES = 10 ** 59
# More figures than Python writes out by itself: no refusal may try to.
MANY_FIGURES = 10 ** 5000
THIRTY_FIGURES = 10 ** 30 - 1


def number_of(year, month, day):
    """The day's number, reckoned apart from the program."""
    return datetime.date(year, month, day).toordinal() - 1


def begin_apart(account, k):
    """Where span k begins, reckoned apart from the program."""
    plans, first, (word, many) = account
    if word == "days":
        return first + k * many
    date = datetime.date.fromordinal(first + 1)
    year, month = divmod(date.year * 12 + date.month - 1 + k * many, 12)
    return number_of(year, month + 1, min(date.day, calendar.monthrange(year, month + 1)[1]))


# By the week a seat of half costs 50 a day, of whole 100, of twice 200; odd has parts that nothing divides.
PLANS = [("half", 350, 0), ("whole", 700, 0), ("twice", 1400, 7), ("odd", 1000, 0), ("few", 1000, 3), ("free", 0, 0),
         ("dear", THIRTY_FIGURES, 0), ("least", 7, 0)]
NAMES = [plan[0] for plan in PLANS]
FIRST = number_of(2024, 1, 31)
WEEKLY = (PLANS, FIRST, ("days", 7))
MONTHLY = (PLANS, FIRST, ("months", 1))
DAILY = (PLANS, 0, ("days", 1))
ACCOUNTS = (WEEKLY, MONTHLY, DAILY, (PLANS, 0, ("days", 2)), (PLANS, 3500000, ("days", 400)), (PLANS, 9, ("months", 12)))
# The begins of the weekly account's spans.
WEEKS = [FIRST + 7 * k for k in range(61)]
LAST = WEEKS[60] - 1

WHOLE = (FIRST, ("plan", FIRST, "whole"))


def paid_bills(many, amount=700):
    """The bills of the first so many weeks, each paid."""
    return [(WEEKS[k], "bill", k, amount, 0, 0, amount) for k in range(many)]


class Case(unittest.TestCase):
    def assert_lines(self, entries, day, lines):
        """The weekly account's lines up to a day, and the sums that come of them."""
        kept = copy.deepcopy((WEEKLY, entries))
        self.assertIsNone(check_entries(WEEKLY, entries))
        self.assertEqual(book_lines(WEEKLY, entries, day), lines)
        self.assert_sums(WEEKLY, entries, day, lines)
        self.assertEqual((WEEKLY, entries), kept)

    def assert_sums(self, account, entries, day, lines):
        """The sums, reckoned from lines; own and given as what was not taken out of them."""
        of = {kind: [line for line in lines if line[1] == kind] for kind in ("grant", "right", "bill", "back")}
        spans = of["bill"] + of["right"]
        paid = sum(line[6] for line in spans)
        back, granted = sum(line[3] for line in of["back"]), sum(line[3] for line in of["grant"])
        told = book_sums(account, entries, day)
        self.assertIs(type(told), tuple)
        self.assertEqual([type(value) for value in told], [int] * 6)
        self.assertEqual(told, (sum(line[3] for line in spans), paid, back, granted,
                                -sum(line[5] for line in spans) - back, granted - sum(line[4] for line in spans)))
        self.assertGreaterEqual(min(told), 0)

    def assert_refused(self, refusal, asked, account, day):
        for entries in ([], [(account[1], ("plan", account[1], "odd")), (account[1] + 1, ("back",))]):
            with self.assertRaises(refusal) as caught:
                asked(account, entries, day)
            self.assertIs(type(caught.exception), refusal)
            self.assertIsInstance(caught.exception, SpanError)

    def check_days_refused(self, asked):
        for account in ACCOUNTS:
            first, end = account[1], begin_apart(account, 60)
            for day in (first - 1, first - 2, first - 400, -1 - first, -SIXTY_FIGURES, -MANY_FIGURES):
                self.assert_refused(NoSpan, asked, account, day)
            for day in (end, end + 1, end + 400, 3652059, SIXTY_FIGURES, MANY_FIGURES):
                self.assert_refused(TooLong, asked, account, day)


class Arguments(unittest.TestCase):
    def test_arguments(self):
        for asked in (book_lines, book_sums, owed):
            self.assertEqual(str(inspect.signature(asked)), "(account, entries, day)")


class Bills(Case):
    def test_no_entries(self):
        for account in ACCOUNTS:
            begins = [begin_apart(account, k) for k in range(61)]
            for day, many in ((begins[0], 1), (begins[1] - 1, 1), (begins[1], 2), (begins[2] - 1, 2), (begins[2], 3),
                              (begins[59] - 1, 59), (begins[59], 60), (begins[60] - 1, 60)):
                self.assertEqual(book_lines(account, [], day), [(begins[k], "bill", k, 0, 0, 0, 0) for k in range(many)])
                self.assertEqual(book_sums(account, [], day), (0, 0, 0, 0, 0, 0))
                self.assertEqual(owed(account, [], day), 0)

    def test_each_begin(self):
        for day, many in ((FIRST, 1), (FIRST + 1, 1), (WEEKS[1] - 1, 1), (WEEKS[1], 2), (WEEKS[1] + 1, 2),
                          (WEEKS[59] - 1, 59), (WEEKS[59], 60), (LAST, 60)):
            self.assert_lines([WHOLE], day, paid_bills(many))
            self.assertEqual(book_sums(WEEKLY, [WHOLE], day), (700 * many, 700 * many, 0, 0, 0, 0))

    def test_by_the_days_of_the_month(self):
        entries = [(FIRST, ("plan", FIRST, "few"))]
        told = book_lines(MONTHLY, entries, number_of(2024, 4, 30))
        self.assertEqual(told, [(number_of(2024, 1, 31), "bill", 0, 9666, 0, 0, 9666),
                                (number_of(2024, 2, 29), "bill", 1, 10333, 0, 0, 10333),
                                (number_of(2024, 3, 31), "bill", 2, 10000, 0, 0, 10000),
                                (number_of(2024, 4, 30), "bill", 3, 10333, 0, 0, 10333)])

    def test_thirty_figures(self):
        entries = [(FIRST, ("plan", FIRST, "dear")), (FIRST, ("seats", FIRST, 1000000)), (FIRST, ("grant", THIRTY_FIGURES))]
        amount = THIRTY_FIGURES * 1000000
        self.assert_lines(entries, FIRST, [(FIRST, "grant", 2, THIRTY_FIGURES, 0, 0, 0),
                                           (FIRST, "bill", 0, amount, THIRTY_FIGURES, 0, amount - THIRTY_FIGURES)])

    def test_entered_on_the_begin_it_is_billed_once(self):
        entries = [WHOLE, (WEEKS[1], ("seats", WEEKS[1], 3))]
        self.assert_lines(entries, WEEKS[1], paid_bills(1) + [(WEEKS[1], "bill", 1, 2100, 0, 0, 2100)])
        entries = [WHOLE, (WEEKS[1], ("hold", WEEKS[1]))]
        self.assert_lines(entries, WEEKS[1], paid_bills(1) + [(WEEKS[1], "bill", 1, 0, 0, 0, 0)])
        # Those that began ahead are put right on the same day, ahead of the bill.
        entries = [WHOLE, (WEEKS[1], ("seats", FIRST, 3))]
        self.assert_lines(entries, WEEKS[1], paid_bills(1) + [(WEEKS[1], "right", 0, 1400, 0, 0, 1400),
                                                              (WEEKS[1], "bill", 1, 2100, 0, 0, 2100)])
        entries = [WHOLE, (WEEKS[1], ("hold", FIRST + 1)), (WEEKS[1], ("seats", WEEKS[1], 9)), (WEEKS[1], ("go", WEEKS[1]))]
        self.assert_lines(entries, WEEKS[1], paid_bills(1) + [(WEEKS[1], "right", 0, -600, 0, -600, 0),
                                                              (WEEKS[1], "bill", 1, 6300, 0, 600, 5700)])

    def test_entered_on_the_first_day_behind_the_begin_it_is_put_right(self):
        entries = [(FIRST + 1, ("plan", FIRST, "whole"))]
        self.assert_lines(entries, FIRST, [(FIRST, "bill", 0, 0, 0, 0, 0)])
        lines = [(FIRST, "bill", 0, 0, 0, 0, 0), (FIRST + 1, "right", 0, 700, 0, 0, 700)]
        self.assert_lines(entries, FIRST + 1, lines)
        self.assert_lines(entries, WEEKS[1] - 1, lines)
        self.assert_lines(entries, WEEKS[1], lines + paid_bills(2)[1:])

    def test_spans_of_one_day(self):
        entries = [(0, ("plan", 0, "twice")), (2, ("seats", 1, 2)), (3, ("hold", 3))]
        self.assertEqual(book_lines(DAILY, entries, 3),
                         [(0, "bill", 0, 200, 0, 0, 200), (1, "bill", 1, 200, 0, 0, 200), (2, "right", 1, 200, 0, 0, 200),
                          (2, "bill", 2, 400, 0, 0, 400), (3, "bill", 3, 0, 0, 0, 0)])


class Grants(Case):
    def test_in_the_order_in_which_they_were_entered_ahead_of_the_other_lines(self):
        entries = [WHOLE, (FIRST, ("grant", 50)), (WEEKS[1], ("grant", 7)), (WEEKS[1], ("seats", FIRST, 2)),
                   (WEEKS[1], ("grant", 5)), (WEEKS[1], ("back",)), (WEEKS[1], ("grant", 6))]
        self.assert_lines(entries, WEEKS[1], [
            (FIRST, "grant", 1, 50, 0, 0, 0), (FIRST, "bill", 0, 700, 50, 0, 650), (WEEKS[1], "grant", 2, 7, 0, 0, 0),
            (WEEKS[1], "grant", 4, 5, 0, 0, 0), (WEEKS[1], "grant", 6, 6, 0, 0, 0),
            (WEEKS[1], "right", 0, 700, 18, 0, 682), (WEEKS[1], "bill", 1, 1400, 0, 0, 1400)])

    def test_they_lie_in_given_up_to_the_next_bill(self):
        entries = [WHOLE, (FIRST + 1, ("grant", 1000)), (FIRST + 1, ("grant", 1))]
        lines = paid_bills(1) + [(FIRST + 1, "grant", 1, 1000, 0, 0, 0), (FIRST + 1, "grant", 2, 1, 0, 0, 0)]
        self.assert_lines(entries, WEEKS[1] - 1, lines)
        self.assertEqual(book_sums(WEEKLY, entries, FIRST), (700, 700, 0, 0, 0, 0))
        self.assertEqual(book_sums(WEEKLY, entries, FIRST + 1), (700, 700, 0, 1001, 0, 1001))
        lines += [(WEEKS[1], "bill", 1, 700, 700, 0, 0), (WEEKS[2], "bill", 2, 700, 301, 0, 399)]
        self.assert_lines(entries, WEEKS[2], lines)
        self.assertEqual(book_sums(WEEKLY, entries, WEEKS[1]), (1400, 700, 0, 1001, 0, 301))
        self.assertEqual(book_sums(WEEKLY, entries, WEEKS[2]), (2100, 1099, 0, 1001, 0, 0))

    def test_on_the_last_day(self):
        self.assert_lines([WHOLE, (LAST, ("grant", 9))], LAST, paid_bills(60) + [(LAST, "grant", 1, 9, 0, 0, 0)])
        self.assert_lines([WHOLE, (LAST, ("grant", 9))], LAST - 1, paid_bills(60))

    def test_on_no_begin_and_with_no_plan(self):
        entries = [(FIRST + 2, ("grant", 9))]
        self.assert_lines(entries, WEEKS[1], [(FIRST, "bill", 0, 0, 0, 0, 0), (FIRST + 2, "grant", 0, 9, 0, 0, 0),
                                              (WEEKS[1], "bill", 1, 0, 0, 0, 0)])


class Rights(Case):
    def test_those_that_cost_less_go_first(self):
        day = WEEKS[3] + 2
        entries = [WHOLE, (day, ("plan", FIRST, "twice")), (day, ("plan", WEEKS[1], "half"))]
        self.assert_lines(entries, day, paid_bills(4) + [
            (day, "right", 1, -350, 0, -350, 0), (day, "right", 2, -350, 0, -350, 0), (day, "right", 3, -350, 0, -350, 0),
            (day, "right", 0, 700, 0, 700, 0)])
        self.assertEqual(book_sums(WEEKLY, entries, day), (2450, 2800, 0, 0, 350, 0))
        self.assert_lines(entries, day - 1, paid_bills(4))

    def test_then_those_that_cost_more_both_in_the_order_of_numbers(self):
        day = WEEKS[6]
        entries = [WHOLE] + [(day, change) for change in (
            ("seats", WEEKS[5], 0), ("plan", WEEKS[4], "twice"), ("plan", WEEKS[3], "half"), ("plan", WEEKS[2], "whole"),
            ("plan", WEEKS[1], "twice"), ("plan", FIRST, "half"))]
        self.assert_lines(entries, day, paid_bills(6) + [
            (day, "right", 0, -350, 0, -350, 0), (day, "right", 3, -350, 0, -350, 0), (day, "right", 5, -700, 0, -700, 0),
            (day, "right", 1, 700, 0, 700, 0), (day, "right", 4, 700, 0, 700, 0), (day, "bill", 6, 0, 0, 0, 0)])

    def test_credit_that_comes_free_goes_into_those_that_cost_more_and_into_the_bill(self):
        entries = [WHOLE, (FIRST, ("grant", 300)), (WEEKS[3] + 2, ("plan", WEEKS[1], "twice")),
                   (WEEKS[3] + 2, ("hold", FIRST + 2)), (WEEKS[3] + 2, ("go", WEEKS[1]))]
        day = WEEKS[3] + 2
        self.assert_lines(entries, day, [
            (FIRST, "grant", 1, 300, 0, 0, 0), (FIRST, "bill", 0, 700, 300, 0, 400)] + paid_bills(4)[1:] + [
            (day, "right", 0, -500, -100, -400, 0), (day, "right", 1, 700, 100, 400, 200),
            (day, "right", 2, 700, 0, 0, 700), (day, "right", 3, 700, 0, 0, 700)])

    def credit_of_all_sorts(self):
        """Entries by which span 2 takes 100 of given, 200 of own, and 400 are paid."""
        entries = [WHOLE, (WEEKS[1] + 1, ("hold", FIRST + 5)), (WEEKS[1] + 1, ("go", WEEKS[1])), (WEEKS[2], ("grant", 100))]
        lines = paid_bills(2) + [(WEEKS[1] + 1, "right", 0, -200, 0, -200, 0), (WEEKS[2], "grant", 3, 100, 0, 0, 0),
                                 (WEEKS[2], "bill", 2, 700, 100, 200, 400)]
        self.assert_lines(entries, WEEKS[3] - 1, lines)
        return entries, lines

    def test_a_span_gives_back_to_own_first_then_to_given(self):
        entries, lines = self.credit_of_all_sorts()
        for days, line in ((1, (-100, 0, -100)), (4, (-400, 0, -400)), (6, (-600, 0, -600)), (7, (-700, -100, -600))):
            day = WEEKS[3] - 1
            held = entries + [(day, ("hold", WEEKS[3] - days))]
            self.assert_lines(held, day, lines + [(day, "right", 2) + line + (0,)])
            self.assert_lines(held + [(day, ("back",))], day,
                              lines + [(day, "right", 2) + line + (0,), (day, "back", -1, -line[2], 0, 0, 0)])

    def test_a_span_gives_back_in_steps_and_takes_again(self):
        entries, lines = self.credit_of_all_sorts()
        day = WEEKS[2] + 1
        entries += [(day, ("hold", WEEKS[2] + 3)), (day + 1, ("hold", WEEKS[2])), (day + 2, ("undo", 5)),
                    (day + 3, ("undo", 4))]
        self.assert_lines(entries, day + 3, lines + [
            (day, "right", 2, -400, 0, -400, 0), (day + 1, "right", 2, -300, -100, -200, 0),
            (day + 2, "right", 2, 300, 100, 200, 0), (day + 3, "right", 2, 400, 0, 400, 0)])

    def test_a_term_and_its_undo_on_one_day(self):
        for change in (("plan", FIRST, "twice"), ("seats", FIRST, 5), ("hold", FIRST), ("stop", WEEKS[1]), ("last", FIRST)):
            for day in (FIRST, FIRST + 1, WEEKS[2], WEEKS[2] + 3, LAST):
                entries = [WHOLE, (day, change), (day, ("undo", 1))]
                self.assert_lines(entries, LAST, paid_bills(60))

    def test_a_term_and_its_undo_on_two_days(self):
        day = WEEKS[2] + 3
        entries = [WHOLE, (day, ("hold", WEEKS[1] + 6)), (day, ("go", WEEKS[2])), (day + 1, ("undo", 1))]
        self.assert_lines(entries, WEEKS[3], paid_bills(3) + [
            (day, "right", 1, -100, 0, -100, 0), (day + 1, "right", 1, 100, 0, 100, 0)] + paid_bills(4)[3:])
        entries = [WHOLE, (day, ("seats", WEEKS[1], 2)), (day + 4, ("undo", 1))]
        self.assert_lines(entries, WEEKS[4], paid_bills(3) + [
            (day, "right", 1, 700, 0, 0, 700), (day, "right", 2, 700, 0, 0, 700),
            (day + 4, "right", 1, -700, 0, -700, 0), (day + 4, "right", 2, -700, 0, -700, 0),
            (WEEKS[3], "bill", 3, 700, 0, 700, 0), (WEEKS[4], "bill", 4, 700, 0, 700, 0)])

    def test_two_terms_of_one_day_by_which_all_is_as_it_was(self):
        for one, other in ((("hold", FIRST), ("go", FIRST)), (("stop", WEEKS[1] + 1), ("go", WEEKS[1] + 1)),
                           (("seats", FIRST + 3, 9), ("seats", FIRST + 3, 1)), (("last", FIRST + 2), ("go", WEEKS[1])),
                           (("plan", WEEKS[1], "dear"), ("plan", WEEKS[1], "whole"))):
            for day in (FIRST, FIRST + 4, WEEKS[1], WEEKS[2] + 3, LAST):
                self.assert_lines([WHOLE, (day, one), (day, other)], LAST, paid_bills(60))

    def test_states_that_change_at_no_cost_make_no_line(self):
        day = WEEKS[2] + 3
        entries = [WHOLE, (day, ("hold", FIRST)), (day, ("go", FIRST)), (day, ("plan", WEEKS[1], "twice")),
                   (day, ("seats", WEEKS[1], 0)), (day, ("plan", WEEKS[2], "whole")), (day, ("seats", WEEKS[2], 1))]
        self.assert_lines(entries, day, paid_bills(3) + [(day, "right", 1, -700, 0, -700, 0)])
        # Two plans that cost the same.
        entries = [(FIRST, ("plan", FIRST, "half")), (FIRST, ("seats", FIRST, 2)), (day, ("plan", FIRST, "whole")),
                   (day, ("seats", FIRST, 1))]
        self.assert_lines(entries, WEEKS[3], paid_bills(4))

    def test_a_term_from_a_day_to_come(self):
        lines = paid_bills(2)
        entries = [WHOLE, (FIRST + 1, ("seats", WEEKS[2], 2))]
        self.assert_lines(entries, WEEKS[3], lines + [(WEEKS[2], "bill", 2, 1400, 0, 0, 1400),
                                                      (WEEKS[3], "bill", 3, 1400, 0, 0, 1400)])
        # Of the span that has begun it is put right at once, not on the day from which it counts.
        entries = [WHOLE, (FIRST + 1, ("hold", FIRST + 4))]
        self.assert_lines(entries, WEEKS[1], paid_bills(1) + [(FIRST + 1, "right", 0, -300, 0, -300, 0),
                                                              (WEEKS[1], "bill", 1, 0, 0, 0, 0)])
        # Undone ahead of its day it never comes into the book.
        entries = [WHOLE, (FIRST + 1, ("stop", WEEKS[2] + 1)), (WEEKS[2] - 1, ("undo", 1))]
        self.assert_lines(entries, WEEKS[3], paid_bills(4))

    def test_last_lets_the_span_run_to_its_end(self):
        entries = [WHOLE, (WEEKS[1] + 2, ("last", WEEKS[1]))]
        self.assert_lines(entries, LAST, paid_bills(2) + [(WEEKS[k], "bill", k, 0, 0, 0, 0) for k in range(2, 60)])
        entries = [WHOLE, (WEEKS[2] + 2, ("last", WEEKS[2] - 1))]
        self.assert_lines(entries, WEEKS[2] + 2, paid_bills(3) + [(WEEKS[2] + 2, "right", 2, -700, 0, -700, 0)])

    def test_several_entries_of_one_day_make_one_line_of_a_span(self):
        day = WEEKS[1] + 2
        entries = [WHOLE, (day, ("seats", FIRST, 3)), (day, ("plan", FIRST, "half")), (day, ("hold", WEEKS[1] + 6)),
                   (day, ("undo", 1)), (day, ("seats", FIRST, 4))]
        self.assert_lines(entries, day, paid_bills(2) + [(day, "right", 0, 700, 0, 0, 700),
                                                         (day, "right", 1, 500, 0, 0, 500)])

    def test_one_least_part_is_put_right(self):
        day = WEEKS[1] + 2
        entries = [(FIRST, ("plan", FIRST, "least")), (day, ("hold", WEEKS[1] - 1)), (day, ("go", WEEKS[1])),
                   (day, ("seats", WEEKS[2] - 1, 2)), (day + 1, ("undo", 1))]
        self.assert_lines(entries, WEEKS[2] - 1, paid_bills(2, 7) + [
            (day, "right", 0, -1, 0, -1, 0), (day, "right", 1, 1, 0, 1, 0), (day + 1, "right", 0, 1, 0, 0, 1)])

    def test_on_the_last_day(self):
        entries = [WHOLE, (LAST, ("seats", FIRST, 2))]
        lines = [(LAST, "right", k, 700, 0, 0, 700) for k in range(60)]
        self.assert_lines(entries, LAST, paid_bills(60) + lines)
        self.assert_lines(entries, LAST - 1, paid_bills(60))

    def test_entries_of_later_days_count_for_nothing(self):
        entries = [WHOLE, (FIRST + 2, ("hold", FIRST)), (WEEKS[1], ("undo", 1)), (WEEKS[1] + 1, ("grant", 5)),
                   (WEEKS[1] + 2, ("back",)), (WEEKS[2] + 1, ("seats", FIRST, 4))]
        for day in range(FIRST, WEEKS[3]):
            known = [entry for entry in entries if entry[0] <= day]
            for asked in (book_lines, book_sums, owed):
                self.assertEqual(asked(WEEKLY, entries, day), asked(WEEKLY, known, day))


class Backs(Case):
    def test_own_credit_is_paid_back(self):
        day = FIRST + 2
        entries = [WHOLE, (day, ("hold", FIRST + 3)), (day, ("back",))]
        lines = paid_bills(1) + [(day, "right", 0, -400, 0, -400, 0), (day, "back", -1, 400, 0, 0, 0)]
        self.assert_lines(entries, day, lines)
        self.assertEqual(book_sums(WEEKLY, entries, day), (300, 700, 400, 0, 0, 0))
        self.assert_lines(entries, day - 1, paid_bills(1))
        self.assert_lines(entries, WEEKS[1], lines + [(WEEKS[1], "bill", 1, 0, 0, 0, 0)])

    def test_wherever_it_stands_on_its_day(self):
        day = FIRST + 2
        hold, back, grant = (day, ("hold", FIRST + 3)), (day, ("back",)), (day, ("grant", 5))
        for entries in ([hold, grant, back], [hold, back, grant], [back, hold, grant]):
            number = 1 + entries.index(grant)
            self.assert_lines([WHOLE] + entries, day, paid_bills(1) + [
                (day, "grant", number, 5, 0, 0, 0), (day, "right", 0, -400, 0, -400, 0), (day, "back", -1, 400, 0, 0, 0)])

    def test_two_of_one_day_pay_back_once(self):
        day = FIRST + 2
        entries = [WHOLE, (day, ("back",)), (day, ("hold", FIRST + 3)), (day, ("back",))]
        self.assert_lines(entries, day, paid_bills(1) + [(day, "right", 0, -400, 0, -400, 0),
                                                         (day, "back", -1, 400, 0, 0, 0)])

    def test_on_two_days(self):
        day = FIRST + 2
        entries = [WHOLE, (day, ("hold", FIRST + 3)), (day, ("back",)), (day + 1, ("back",)), (day + 2, ("hold", FIRST + 1)),
                   (day + 3, ("back",))]
        self.assert_lines(entries, day + 3, paid_bills(1) + [
            (day, "right", 0, -400, 0, -400, 0), (day, "back", -1, 400, 0, 0, 0), (day + 2, "right", 0, -200, 0, -200, 0),
            (day + 3, "back", -1, 200, 0, 0, 0)])

    def test_nothing_in_own(self):
        for day in (FIRST, FIRST + 3, WEEKS[1], LAST):
            self.assert_lines([WHOLE, (day, ("back",))], LAST, paid_bills(60))
        # What was granted is not paid back.
        entries = [WHOLE, (FIRST + 1, ("grant", 30)), (FIRST + 1, ("back",))]
        self.assert_lines(entries, FIRST + 1, paid_bills(1) + [(FIRST + 1, "grant", 1, 30, 0, 0, 0)])
        entries = [WHOLE, (FIRST, ("grant", 700)), (FIRST + 1, ("hold", FIRST)), (FIRST + 1, ("back",))]
        self.assert_lines(entries, FIRST + 1, [(FIRST, "grant", 1, 700, 0, 0, 0), (FIRST, "bill", 0, 700, 700, 0, 0),
                                               (FIRST + 1, "right", 0, -700, -700, 0, 0)])

    def test_behind_the_bill_of_its_day(self):
        entries = [WHOLE, (FIRST + 2, ("hold", FIRST)), (WEEKS[1], ("go", WEEKS[1] + 5)), (WEEKS[1], ("back",))]
        self.assert_lines(entries, WEEKS[1], paid_bills(1) + [
            (FIRST + 2, "right", 0, -700, 0, -700, 0), (WEEKS[1], "bill", 1, 200, 0, 200, 0),
            (WEEKS[1], "back", -1, 500, 0, 0, 0)])

    def test_what_comes_free_behind_it_stays(self):
        entries = [WHOLE, (FIRST + 2, ("back",)), (FIRST + 3, ("hold", FIRST))]
        self.assert_lines(entries, FIRST + 4, paid_bills(1) + [(FIRST + 3, "right", 0, -700, 0, -700, 0)])


class Lists(Case):
    def test_the_list_is_a_new_one(self):
        entries = [WHOLE, (FIRST, ("grant", 5))]
        told = book_lines(WEEKLY, entries, WEEKS[1])
        self.assertIs(type(told), list)
        self.assertTrue(all(type(line) is tuple for line in told))
        again = copy.deepcopy(told)
        told.clear()
        self.assertEqual(book_lines(WEEKLY, entries, WEEKS[1]), again)

    def test_days_that_are_none_of_the_account(self):
        for asked in (book_lines, book_sums, owed):
            self.check_days_refused(asked)


class Owed(Case):
    def test_known_days(self):
        for day, amount in ((FIRST, 600), (FIRST + 1, 500), (FIRST + 5, 100), (FIRST + 6, 0), (WEEKS[1], 600),
                            (WEEKS[2] - 1, 0), (WEEKS[59], 600), (LAST - 1, 100), (LAST, 0)):
            self.assertEqual(owed(WEEKLY, [WHOLE], day), amount)

    def test_by_what_is_known_at_the_day(self):
        entries = [WHOLE, (FIRST + 2, ("seats", FIRST + 4, 2)), (FIRST + 3, ("hold", FIRST + 5)), (FIRST + 5, ("undo", 2))]
        for day, amount in ((FIRST, 600), (FIRST + 1, 500), (FIRST + 2, 700), (FIRST + 3, 200), (FIRST + 4, 0),
                            (FIRST + 5, 200), (FIRST + 6, 0), (WEEKS[1], 1200)):
            self.assertEqual(owed(WEEKLY, entries, day), amount)

    def test_spans_that_have_not_begun_are_not_owed(self):
        entries = [(FIRST, ("plan", WEEKS[1], "whole"))]
        for day, amount in ((FIRST, 0), (WEEKS[1] - 1, 0), (WEEKS[1], 600)):
            self.assertEqual(owed(WEEKLY, entries, day), amount)

    def test_parts_of_the_rest_add_up(self):
        entries = [(FIRST, ("plan", FIRST, "odd"))]
        self.assertEqual([owed(WEEKLY, entries, FIRST + place) for place in range(8)],
                         [858, 715, 572, 429, 286, 143, 0, 858])

    def test_spans_of_one_day_are_owed_nothing(self):
        for day in range(60):
            self.assertEqual(owed(DAILY, [(0, ("plan", 0, "dear"))], day), 0)

    def test_its_kind(self):
        for entries in ([], [WHOLE]):
            self.assertIs(type(owed(WEEKLY, entries, FIRST)), int)


def known_apart(entries, day):
    """What is known at a day, reckoned apart from the program, as a tuple of (number, change)."""
    undone = [change[1] for entered, change in entries if change[0] == "undo" and entered <= day]
    return tuple((number, change) for number, (entered, change) in enumerate(entries)
                 if entered <= day and change[0] not in ("undo", "grant", "back") and number not in undone)


class BookApart:
    """The book, reckoned apart from the program: each day from the first on, each day's cost by its exact part."""

    def __init__(self, account, entries):
        self.account, self.entries = account, entries
        self.begins = [begin_apart(account, k) for k in range(61)]
        self.costs = {}
        self.given, self.own, self.lines, self.took = 0, 0, [], {}

    def counts(self, change):
        return next(end for end in self.begins if change[1] < end) if change[0] == "last" else change[1]

    def latest(self, known, words, day):
        terms = [(self.counts(change), change[1], number, change) for number, change in known if change[0] in words]
        return max([term for term in terms if term[0] <= day], default=(None,) * 4)[3]

    def day_cost(self, known, k, day):
        plan = self.latest(known, ("plan",), day)
        seats = self.latest(known, ("seats",), day)
        word = self.latest(known, ("hold", "go", "stop", "last"), day)
        if plan is None or (word is not None and word[0] != "go"):
            return 0
        price, count = next((price, count) for name, price, count in self.account[0] if name == plan[2])
        begin, end = self.begins[k], self.begins[k + 1]
        a_day = fractions.Fraction(price * (1 if seats is None else seats[2]), count or end - begin)
        return (a_day * (day - begin + 1)).__floor__() - (a_day * (day - begin)).__floor__()

    def span_cost(self, known, k, behind=-1):
        key = (known, k, behind)
        if key not in self.costs:
            days = range(max(self.begins[k], behind + 1), self.begins[k + 1])
            self.costs[key] = sum(self.day_cost(known, k, day) for day in days)
        return self.costs[key]

    def put(self, day, kind, k, more):
        given, money = self.took.get(k, (0, 0))
        if more < 0:
            to_own = min(-more, money)
            parts = (more + to_own, -to_own, 0)
        else:
            from_given = min(more, self.given)
            from_own = min(more - from_given, self.own)
            parts = (from_given, from_own, more - from_given - from_own)
        self.took[k] = (given + parts[0], money + parts[1] + parts[2])
        self.given, self.own = self.given - parts[0], self.own - parts[1]
        self.lines.append((day, kind, k, more) + parts)

    def work(self, day):
        known = known_apart(self.entries, day)
        for number, (entered, change) in enumerate(self.entries):
            if entered == day and change[0] == "grant":
                self.given += change[1]
                self.lines.append((day, "grant", number, change[1], 0, 0, 0))
        due = [(k, self.span_cost(known, k) - sum(self.took[k])) for k in range(60) if self.begins[k] < day]
        for k, more in [one for one in due if one[1] < 0] + [one for one in due if one[1] > 0]:
            self.put(day, "right", k, more)
        if day in self.begins:
            k = self.begins.index(day)
            self.put(day, "bill", k, self.span_cost(known, k))
        if self.own and any(entered == day and change == ("back",) for entered, change in self.entries):
            self.lines.append((day, "back", -1, self.own, 0, 0, 0))
            self.own = 0

    def owed(self, day):
        known = known_apart(self.entries, day)
        return sum(self.span_cost(known, k, day) for k in range(60) if self.begins[k] <= day)


def entries_by_chance(chance, account, many, days):
    """Entries of the first so many days, whose days often meet one another, with undos of terms that stand."""
    first = account[1]
    entries, standing, entered = [], [], first
    for number in range(many):
        entered = min(entered + chance.choice((0, 0, 0, 1, 1, 2, 5)), first + days - 1)
        own_day = first + min(days - 1, max(0, entered - first + chance.choice((-20, -9, -3, -1, 0, 0, 1, 3, 9))))
        changes = [("plan", own_day, chance.choice(NAMES)), ("plan", own_day, chance.choice(NAMES)),
                   ("seats", own_day, chance.choice((0, 1, 2, 3, 1000000))), ("hold", own_day), ("go", own_day),
                   ("go", own_day), ("stop", own_day), ("last", own_day)]
        change = chance.choice(changes + [("grant", chance.choice((1, 30, 500, 5000)))] * 2 + [("back",)] * 2)
        if standing and chance.randrange(5) == 0:
            change = ("undo", standing.pop(chance.randrange(len(standing))))
        elif change in changes:
            standing.append(number)
        entries.append((entered, change))
    return entries


class ByChance(Case):
    def check_book(self, account, entries, days):
        kept = copy.deepcopy((account, entries))
        self.assertIsNone(check_entries(account, entries))
        apart = BookApart(account, entries)
        for day in range(account[1], account[1] + days):
            apart.work(day)
            self.assertEqual(book_lines(account, entries, day), apart.lines, (account, entries, day))
            self.assertEqual(book_sums(account, entries, day)[4:], (apart.own, apart.given))
            self.assert_sums(account, entries, day, apart.lines)
            self.assertEqual(owed(account, entries, day), apart.owed(day))
        self.assertEqual((account, entries), kept)

    def test_day_by_day(self):
        chance = random.Random(20)
        for turn in range(40):
            account = chance.choice((WEEKLY, (PLANS, 0, ("days", 2)), DAILY, (PLANS, 3500000, ("days", 5))))
            days = chance.choice((20, 40))
            self.check_book(account, entries_by_chance(chance, account, chance.choice((3, 9, 20, 40)), days), days)

    def test_by_the_month(self):
        chance = random.Random(21)
        for turn in range(3):
            self.check_book(MONTHLY, entries_by_chance(chance, MONTHLY, chance.choice((12, 25)), 100), 100)

    def test_up_to_the_last_day(self):
        chance = random.Random(22)
        for account, days in ((DAILY, 60), ((PLANS, 0, ("days", 2)), 120)):
            self.check_book(account, entries_by_chance(chance, account, 40, days), days)


class WhatTheSumsPromise(Case):
    def check_sums(self, account, entries, day):
        billed, paid, back, granted, own, given = book_sums(account, entries, day)
        terms = terms_at(entries, day)
        begun = [k for k in range(60) if begin_apart(account, k) <= day]
        self.assertEqual(billed, sum(span_cost(account, terms, k) for k in begun))
        self.assertEqual(billed, owed(account, entries, day) + earned(account, terms, day + 1))
        self.assertEqual(billed + own + given, paid - back + granted)
        took = {k: [0, 0] for k in begun}
        for line in book_lines(account, entries, day):
            if line[1] in ("bill", "right"):
                took[line[2]][0] += line[4]
                took[line[2]][1] += line[5] + line[6]
        self.assertEqual(paid - back, sum(one[1] for one in took.values()) + own)
        self.assertEqual(granted, sum(one[0] for one in took.values()) + given)
        self.assertGreaterEqual(min([own, given, paid, back, granted, billed] + [min(one) for one in took.values()]), 0)
        self.assertLessEqual(back, paid)

    def test_at_each_begin_and_around_it(self):
        chance = random.Random(23)
        for turn in range(12):
            account = chance.choice(ACCOUNTS)
            entries = entries_by_chance(chance, account, 40, min(begin_apart(account, 60) - account[1], 90))
            days = [begin_apart(account, k) + more for k in (0, 1, 2, 5, 58, 59, 60) for more in (-1, 0, 1)]
            for day in [day for day in days if account[1] <= day < begin_apart(account, 60)]:
                self.check_sums(account, entries, day)


if __name__ == "__main__":
    unittest.main()
