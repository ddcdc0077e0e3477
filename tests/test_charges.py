"""What stretches, days and spans cost, and what is earned (points 16, 17, and 4 as far as it speaks of them)."""

import calendar
import copy
import datetime
import fractions
import inspect
import random
import unittest

from paidspan.charges import day_cost, earned, span_cost, span_lines
from paidspan.entries import check_entries, terms_at
from paidspan.errors import NoSpan, SpanError, TooLong
from paidspan.states import counts_from, state_on, stretches

SIXTY_FIGURES = 10 ** 59
# More figures than Python writes out by itself: no refusal may try to.
MANY_FIGURES = 10 ** 5000
THIRTY_FIGURES = 10 ** 30 - 1


def number_of(year, month, day):
    """The day's number, reckoned apart from the program."""
    return datetime.date(year, month, day).toordinal() - 1


def begin_apart(account, k):
    """Where span k begins, reckoned apart from the program."""
    plans, first, (word, many) = account
    if word == "days":
        return first + k * many
    date = datetime.date.fromordinal(first + 1)
    year, month = divmod(date.year * 12 + date.month - 1 + k * many, 12)
    return number_of(year, month + 1, min(date.day, calendar.monthrange(year, month + 1)[1]))


# Counts of 0, of just as many days, of fewer and of more than the spans have; prices that nothing divides.
PLANS = [("whole", 1000, 0), ("seven", 1000, 7), ("few", 1000, 3), ("more", 1000, 10), ("one", 100, 1), ("free", 0, 0),
         ("dear", THIRTY_FIGURES, 0), ("most", THIRTY_FIGURES, 400)]
NAMES = [plan[0] for plan in PLANS]
FIRST = number_of(2024, 1, 31)
WEEKLY = (PLANS, FIRST, ("days", 7))
MONTHLY = (PLANS, FIRST, ("months", 1))
DAILY = (PLANS, 0, ("days", 1))
ACCOUNTS = (WEEKLY, MONTHLY, DAILY, (PLANS, 0, ("days", 2)), (PLANS, 3500000, ("days", 30)), (PLANS, 9, ("months", 2)))
# The begins of the weekly account's spans.
WEEKS = [FIRST + 7 * k for k in range(61)]


def terms_of(*changes):
    return list(enumerate(changes))


def day_apart(account, terms, day):
    """What a day costs, reckoned apart from the program: by exact parts, rounded down."""
    name, seats, word = state_on(account, terms, day)
    if name is None or word != "on":
        return 0
    k = next(k for k in range(60) if day < begin_apart(account, k + 1))
    begin, end = begin_apart(account, k), begin_apart(account, k + 1)
    price, count = next((price, count) for plan, price, count in account[0] if plan == name)
    a_day = fractions.Fraction(price * seats, count or end - begin)
    return (a_day * (day - begin + 1)).__floor__() - (a_day * (day - begin)).__floor__()


def days_apart(account, terms, begin, end):
    return sum(day_apart(account, terms, day) for day in range(begin, end))


def terms_by_chance(chance, account, many):
    """Terms with days that often meet one another and the ends of the first spans."""
    ends = [begin_apart(account, k) for k in range(4)]
    terms = []
    for number in range(many):
        day = max(account[1], chance.choice(ends) + chance.choice((-2, -1, 0, 0, 1, 2, 3)))
        terms.append((number, chance.choice([
            ("plan", day, chance.choice(NAMES)), ("plan", day, chance.choice(NAMES)),
            ("seats", day, chance.choice((0, 1, 2, 3, 7, 1000000))), ("hold", day), ("go", day), ("stop", day),
            ("last", day)])))
    return terms


class Case(unittest.TestCase):
    def assert_lines(self, account, terms, k, lines):
        kept = copy.deepcopy((account, terms))
        self.assertEqual(span_lines(account, terms, k), lines)
        self.assertEqual(span_cost(account, terms, k), sum(line[3] for line in lines))
        self.assertEqual((account, terms), kept)

    def assert_days(self, account, terms, begin, costs):
        self.assertEqual([day_cost(account, terms, begin + place) for place in range(len(costs))], costs)

    def assert_refused(self, refusal, asked, account, number):
        for terms in ([], terms_of(("plan", account[1], "whole"), ("last", account[1] + 1))):
            with self.assertRaises(refusal) as caught:
                asked(account, terms, number)
            self.assertIs(type(caught.exception), refusal)
            self.assertIsInstance(caught.exception, SpanError)

    def check_days_refused(self, asked, may_be_the_end):
        for account in ACCOUNTS:
            first, end = account[1], begin_apart(account, 60)
            for day in (first - 1, first - 2, first - 400, -1 - first, -SIXTY_FIGURES, -MANY_FIGURES):
                self.assert_refused(NoSpan, asked, account, day)
            for day in (end + 1, end + 2, end + 400, 3652059, SIXTY_FIGURES, MANY_FIGURES):
                self.assert_refused(TooLong, asked, account, day)
            if not may_be_the_end:
                self.assert_refused(TooLong, asked, account, end)

    def check_spans_refused(self, asked):
        for account in ACCOUNTS:
            for k in (-1, -2, -60, -61, -SIXTY_FIGURES, -MANY_FIGURES):
                self.assert_refused(NoSpan, asked, account, k)
            for k in (60, 61, 62, 1000, SIXTY_FIGURES, MANY_FIGURES):
                self.assert_refused(TooLong, asked, account, k)


class Arguments(unittest.TestCase):
    def test_arguments(self):
        for asked, told in ((day_cost, "(account, terms, day)"), (span_lines, "(account, terms, k)"),
                            (span_cost, "(account, terms, k)"), (earned, "(account, terms, day)")):
            self.assertEqual(str(inspect.signature(asked)), told)


class DayCost(Case):
    def test_known_days(self):
        for name, costs in (("whole", [142, 143, 143, 143, 143, 143, 143]), ("seven", [142, 143, 143, 143, 143, 143, 143]),
                            ("few", [333, 333, 334, 333, 333, 334, 333]), ("more", [100] * 7), ("one", [100] * 7),
                            ("free", [0] * 7)):
            terms = terms_of(("plan", FIRST, name))
            for k in (0, 1, 59):
                self.assert_days(WEEKLY, terms, WEEKS[k], costs)

    def test_by_the_days_of_its_own_span(self):
        account = ([("whole", 1000, 0), ("thirty", 1000, 30)], number_of(2024, 2, 1), ("months", 1))
        terms = terms_of(("plan", account[1], "whole"))
        self.assert_days(account, terms, number_of(2024, 2, 1), [34, 34, 35, 34, 35, 34, 35])
        self.assert_days(account, terms, number_of(2024, 2, 27), [35, 34, 35, 32, 32, 32, 33])
        terms = terms_of(("plan", account[1], "thirty"))
        self.assert_days(account, terms, number_of(2024, 2, 28), [33, 33, 33, 33, 34, 33])
        self.assert_days(account, terms, number_of(2024, 3, 29), [33, 34, 33, 33, 33, 34])

    def test_no_plan_held_and_off(self):
        for terms in ([], terms_of(("seats", FIRST, 5)), terms_of(("go", FIRST)),
                      terms_of(("plan", FIRST, "whole"), ("hold", FIRST)), terms_of(("plan", FIRST, "whole"), ("stop", FIRST)),
                      terms_of(("plan", WEEKS[1], "whole"))):
            self.assert_days(WEEKLY, terms, FIRST, [0] * 7)
        terms = terms_of(("plan", FIRST, "whole"), ("last", FIRST))
        self.assert_days(WEEKLY, terms, FIRST, [142, 143, 143, 143, 143, 143, 143] + [0] * 7)

    def test_seats(self):
        for seats, costs in ((0, [0] * 7), (1, [142, 143, 143, 143, 143, 143, 143]), (2, [285, 286, 286, 285, 286, 286, 286]),
                             (1000000, [142857142, 142857143, 142857143, 142857143, 142857143, 142857143, 142857143])):
            self.assert_days(WEEKLY, terms_of(("plan", FIRST, "whole"), ("seats", FIRST, seats)), FIRST, costs)

    def test_thirty_figures(self):
        terms = terms_of(("plan", FIRST, "dear"), ("seats", FIRST, 1000000))
        self.assert_days(WEEKLY, terms, FIRST, [142857142857142857142857142857000000] * 7)
        terms = terms_of(("plan", FIRST, "most"))
        self.assert_days(WEEKLY, terms, FIRST, [2499999999999999999999999999] + [2500000000000000000000000000] * 6)

    def test_a_span_of_one_day(self):
        for name, cost in (("whole", 1000), ("few", 333), ("more", 100), ("one", 100), ("free", 0), ("dear", THIRTY_FIGURES)):
            self.assert_days(DAILY, terms_of(("plan", 0, name)), 0, [cost] * 60)

    def test_the_state_of_the_day_itself(self):
        day = WEEKS[1] + 2
        terms = terms_of(("plan", FIRST, "whole"), ("hold", day), ("go", day + 2), ("seats", day + 3, 0), ("plan", day + 4, "one"),
                         ("seats", day + 4, 3))
        self.assert_days(WEEKLY, terms, WEEKS[1], [142, 143, 0, 0, 143, 0, 300])

    def test_each_day_by_chance(self):
        chance = random.Random(16)
        for turn in range(150):
            account = chance.choice(ACCOUNTS)
            terms = terms_by_chance(chance, account, chance.randrange(13))
            last = begin_apart(account, 60)
            for place in range(20):
                day = chance.randrange(account[1], min(begin_apart(account, 5), last))
                cost = day_cost(account, terms, day)
                self.assertEqual(cost, day_apart(account, terms, day), (account, terms, day))
                self.assertIs(type(cost), int)

    def test_days_that_are_none_of_the_account(self):
        self.check_days_refused(day_cost, False)
        for account in ACCOUNTS:
            terms = terms_of(("plan", account[1], "one"))
            self.assertEqual(day_cost(account, terms, begin_apart(account, 60) - 1), 100)


class SpanLines(Case):
    def test_one_stretch(self):
        for name, cost in (("whole", 1000), ("seven", 1000), ("few", 2333), ("more", 700), ("one", 700), ("free", 0),
                           ("dear", THIRTY_FIGURES), ("most", 17499999999999999999999999999)):
            for k in (0, 1, 58, 59):
                self.assert_lines(WEEKLY, terms_of(("plan", FIRST, name)), k, [
                    (WEEKS[k], WEEKS[k + 1], (name, 1, "on"), cost)])

    def test_no_plan_held_and_off(self):
        for changes, state in (([], (None, 1, "on")), ([("seats", FIRST, 5)], (None, 5, "on")),
                               ([("plan", FIRST, "one"), ("hold", FIRST)], ("one", 1, "held")),
                               ([("plan", FIRST, "one"), ("stop", FIRST)], ("one", 1, "off")),
                               ([("plan", FIRST, "one"), ("seats", FIRST, 0)], ("one", 0, "on"))):
            self.assert_lines(WEEKLY, terms_of(*changes), 3, [(WEEKS[3], WEEKS[4], state, 0)])

    def test_spans_of_months(self):
        terms = terms_of(("plan", FIRST, "whole"), ("seats", FIRST, 3))
        for k, begin, end in ((0, (2024, 1, 31), (2024, 2, 29)), (1, (2024, 2, 29), (2024, 3, 31)),
                              (59, (2028, 12, 31), (2029, 1, 31))):
            self.assert_lines(MONTHLY, terms, k, [(number_of(*begin), number_of(*end), ("whole", 3, "on"), 3000)])
        self.assertEqual([span_cost(MONTHLY, terms_of(("plan", FIRST, "more")), k) for k in range(4)],
                         [2900, 3100, 3000, 3100])

    def test_a_change_of_plan_within(self):
        begin, end = WEEKS[2], WEEKS[3]
        for day, ahead, behind in ((begin + 1, 142, 2000), (begin + 3, 428, 1333), (begin + 6, 857, 333)):
            terms = terms_of(("plan", FIRST, "whole"), ("plan", day, "few"))
            self.assert_lines(WEEKLY, terms, 2, [
                (begin, day, ("whole", 1, "on"), ahead), (day, end, ("few", 1, "on"), behind)])

    def test_changes_on_the_first_and_on_the_last_day(self):
        begin, end = WEEKS[2], WEEKS[3]
        terms = terms_of(("plan", FIRST, "whole"), ("plan", begin, "one"), ("seats", end - 1, 2), ("plan", end, "few"))
        self.assert_lines(WEEKLY, terms, 1, [(WEEKS[1], begin, ("whole", 1, "on"), 1000)])
        self.assert_lines(WEEKLY, terms, 2, [(begin, end - 1, ("one", 1, "on"), 600), (end - 1, end, ("one", 2, "on"), 200)])
        self.assert_lines(WEEKLY, terms, 3, [(end, WEEKS[4], ("few", 2, "on"), 4666)])

    def test_lines_that_cost_nothing_are_told(self):
        begin, end = WEEKS[2], WEEKS[3]
        terms = terms_of(("plan", begin + 1, "whole"), ("hold", begin + 3), ("go", begin + 4), ("stop", begin + 6))
        self.assert_lines(WEEKLY, terms, 2, [
            (begin, begin + 1, (None, 1, "on"), 0), (begin + 1, begin + 3, ("whole", 1, "on"), 286),
            (begin + 3, begin + 4, ("whole", 1, "held"), 0), (begin + 4, begin + 6, ("whole", 1, "on"), 286),
            (begin + 6, end, ("whole", 1, "off"), 0)])
        self.assert_lines(WEEKLY, terms, 3, [(end, WEEKS[4], ("whole", 1, "off"), 0)])

    def test_what_changes_nothing_cuts_nothing(self):
        terms = terms_of(("plan", FIRST, "whole"), ("plan", WEEKS[2] + 3, "whole"), ("seats", WEEKS[2] + 4, 1),
                         ("go", WEEKS[2] + 5), ("hold", WEEKS[2] + 6), ("go", WEEKS[2] + 6))
        self.assert_lines(WEEKLY, terms, 2, [(WEEKS[2], WEEKS[3], ("whole", 1, "on"), 1000)])

    def test_last_ends_behind_its_span(self):
        for day in (WEEKS[2], WEEKS[2] + 3, WEEKS[3] - 1):
            terms = terms_of(("plan", FIRST, "whole"), ("last", day))
            self.assert_lines(WEEKLY, terms, 2, [(WEEKS[2], WEEKS[3], ("whole", 1, "on"), 1000)])
            self.assert_lines(WEEKLY, terms, 3, [(WEEKS[3], WEEKS[4], ("whole", 1, "off"), 0)])

    def check_span(self, account, terms, k):
        begin, end = begin_apart(account, k), begin_apart(account, k + 1)
        lines = span_lines(account, terms, k)
        self.assertEqual([line[:3] for line in lines], stretches(account, terms, begin, end))
        for line in lines:
            self.assertIs(type(line), tuple)
            self.assertEqual(line[3], days_apart(account, terms, line[0], line[1]), (account, terms, line))
            self.assertEqual(line[3], sum(day_cost(account, terms, day) for day in range(line[0], line[1])))
            for day in range(line[0], line[1]):
                self.assertEqual(state_on(account, terms, day), line[2])
        self.assertEqual(span_cost(account, terms, k), sum(line[3] for line in lines))
        self.assertEqual(span_cost(account, terms, k), days_apart(account, terms, begin, end))

    def test_lines_and_days_come_to_what_the_span_costs(self):
        chance = random.Random(17)
        for turn in range(80):
            account = chance.choice(ACCOUNTS)
            terms = terms_by_chance(chance, account, chance.randrange(13))
            for k in (0, 1, 2, 3, 59):
                self.check_span(account, terms, k)

    def test_wherever_it_is_cut_the_same_plan_costs_the_same(self):
        # Seats that come back to what they were, or a plan that does, leave out just the days between.
        terms = terms_of(("plan", FIRST, "dear"), ("hold", WEEKS[2] + 2), ("go", WEEKS[2] + 3))
        whole = span_cost(WEEKLY, terms[:1], 2)
        self.assertEqual(whole, THIRTY_FIGURES)
        self.assertEqual(span_cost(WEEKLY, terms, 2), whole - day_cost(WEEKLY, terms[:1], WEEKS[2] + 2))

    def test_the_list_is_a_new_one(self):
        terms = terms_of(("plan", FIRST, "whole"))
        told = span_lines(WEEKLY, terms, 0)
        self.assertIs(type(told), list)
        told.clear()
        self.assert_lines(WEEKLY, terms, 0, [(FIRST, WEEKS[1], ("whole", 1, "on"), 1000)])

    def test_spans_that_are_none(self):
        self.check_spans_refused(span_lines)
        self.check_spans_refused(span_cost)


class Earned(Case):
    def test_ahead_of_the_first_day(self):
        for account in ACCOUNTS:
            for terms in ([], terms_of(("plan", account[1], "dear"))):
                self.assertEqual(earned(account, terms, account[1]), 0)

    def test_known_amounts(self):
        terms = terms_of(("plan", FIRST, "whole"), ("seats", WEEKS[1] + 3, 2), ("hold", WEEKS[2] + 2), ("go", WEEKS[3] - 1))
        for day, amount in ((FIRST, 0), (FIRST + 1, 142), (WEEKS[1] - 1, 857), (WEEKS[1], 1000), (WEEKS[1] + 3, 1428),
                            (WEEKS[1] + 4, 1713), (WEEKS[2], 2571), (WEEKS[2] + 2, 3142), (WEEKS[3] - 1, 3142),
                            (WEEKS[3], 3428), (WEEKS[4], 5428), (WEEKS[60] - 1, 117142), (WEEKS[60], 117428)):
            self.assertEqual(earned(WEEKLY, terms, day), amount, day - FIRST)

    def test_ahead_of_each_begin_and_of_the_end(self):
        chance = random.Random(18)
        for account in ACCOUNTS:
            for many in (0, 1, 12):
                terms = terms_by_chance(chance, account, many)
                total = 0
                for k in range(60):
                    self.assertEqual(earned(account, terms, begin_apart(account, k)), total)
                    total += span_cost(account, terms, k)
                self.assertEqual(earned(account, terms, begin_apart(account, 60)), total)

    def test_ahead_of_each_day(self):
        chance = random.Random(19)
        for turn in range(30):
            account = chance.choice((WEEKLY, DAILY, (PLANS, 0, ("days", 2)), MONTHLY))
            terms = terms_by_chance(chance, account, chance.randrange(13))
            kept = copy.deepcopy((account, terms))
            total = 0
            for day in range(account[1], min(account[1] + 70, begin_apart(account, 60))):
                told = earned(account, terms, day)
                self.assertEqual(told, total, (account, terms, day))
                self.assertIs(type(told), int)
                total += day_apart(account, terms, day)
            self.assertEqual((account, terms), kept)

    def test_the_last_day(self):
        for account in ACCOUNTS:
            terms = terms_of(("plan", account[1], "one"))
            days = begin_apart(account, 60) - account[1]
            self.assertEqual(earned(account, terms, account[1] + days), 100 * days)
            self.assertEqual(earned(account, terms, account[1] + days - 1), 100 * days - 100)

    def test_days_that_are_none_of_the_account(self):
        self.check_days_refused(earned, True)


def sort_of(change):
    return change[0] if change[0] in ("plan", "seats") else "word"


def without_ties(account, changes):
    """Those left where no two of one sort count from one day and have one own day."""
    kept = {}
    for change in changes:
        kept.setdefault((sort_of(change), counts_from(account, change), change[1]), change)
    return list(kept.values())


class InWhicheverOrder(Case):
    def costs(self, account, terms):
        return [span_cost(account, terms, k) for k in range(60)] + [earned(account, terms, begin_apart(account, 2) + 1)]

    def test_by_the_terms_not_by_their_numbers(self):
        chance = random.Random(20)
        for turn in range(60):
            account = chance.choice(ACCOUNTS[1:])
            changes = without_ties(account, [change for number, change in terms_by_chance(chance, account, 12)])
            told = self.costs(account, terms_of(*changes))
            for again in range(3):
                chance.shuffle(changes)
                numbers = sorted(chance.sample(range(40), len(changes)))
                self.assertEqual(self.costs(account, list(zip(numbers, changes))), told)

    def test_entered_in_their_time_early_or_late(self):
        chance = random.Random(21)
        last = WEEKS[60] - 1
        for turn in range(60):
            changes = without_ties(WEEKLY, [change for number, change in terms_by_chance(chance, WEEKLY, 12)])
            in_time = sorted([(change[1], change) for change in changes], key=lambda entry: entry[0])
            early = [(FIRST, change) for change in changes]
            late = [(last, change) for change in reversed(changes)]
            undone = [(FIRST, ("plan", FIRST, "dear"))] + early + [(last, ("undo", 0))]
            told = []
            for entries in (in_time, early, late, undone):
                self.assertIsNone(check_entries(WEEKLY, entries))
                told.append(self.costs(WEEKLY, terms_at(entries, last)))
            self.assertEqual(told, [told[0]] * 4)

    def test_where_all_is_one_the_number_tells(self):
        one, other = ("plan", FIRST, "one"), ("plan", FIRST, "few")
        self.assertEqual(span_cost(WEEKLY, terms_of(one, other), 0), 2333)
        self.assertEqual(span_cost(WEEKLY, terms_of(other, one), 0), 700)


if __name__ == "__main__":
    unittest.main()
