"""Entries in their time, and what moved between two days (points 23, 24, and 2, 4, 10 as far as they speak of them)."""

import copy
import inspect
import random
import unittest

from paidspan.books import book_lines, book_sums
from paidspan.charges import earned, span_cost
from paidspan.corrections import in_time, moved
from paidspan.entries import check_entries, terms_at
from paidspan.errors import NoSpan, SpanError, TooLong

SIXTY_FIGURES = 10 ** 59
# More figures than Python writes out by itself: no refusal may try to.
MANY_FIGURES = 10 ** 5000
THIRTY_FIGURES = 10 ** 30 - 1

# By the week a seat of half costs 50 a day, of whole 100, of twice 200; odd has parts that nothing divides.
PLANS = [("half", 350, 0), ("whole", 700, 0), ("twice", 1400, 7), ("odd", 1000, 0), ("few", 1000, 3),
         ("dear", THIRTY_FIGURES, 0)]
NAMES = [plan[0] for plan in PLANS]
# 31 January 2024.
FIRST = 738915
WEEKLY = (PLANS, FIRST, ("days", 7))
WEEKS = [FIRST + 7 * k for k in range(61)]
LAST = WEEKS[60] - 1
# Each with the end of its span 59.
ACCOUNTS = ((WEEKLY, WEEKS[60]), ((PLANS, FIRST, ("months", 1)), 740742), ((PLANS, 0, ("days", 1)), 60),
            ((PLANS, 3500000, ("days", 400)), 3524000))

WHOLE = (FIRST, ("plan", FIRST, "whole"))


def entries_by_chance(chance, first, many, days):
    """Entries of the first so many days, whose days often meet one another, with undos of terms that stand."""
    entries, standing, entered = [], [], first
    for number in range(many):
        entered = min(entered + chance.choice((0, 0, 0, 1, 2, 5)), first + days - 1)
        own_day = first + min(days - 1, max(0, entered - first + chance.choice((-20, -9, -3, -1, 0, 0, 1, 3, 9))))
        changes = [("plan", own_day, chance.choice(NAMES)), ("plan", own_day, chance.choice(NAMES)),
                   ("seats", own_day, chance.choice((0, 1, 2, 3))), ("hold", own_day), ("go", own_day), ("go", own_day),
                   ("stop", own_day), ("last", own_day)]
        change = chance.choice(changes + [("grant", chance.choice((1, 30, 500)))] * 2 + [("back",)] * 2)
        if standing and chance.randrange(5) == 0:
            change = ("undo", standing.pop(chance.randrange(len(standing))))
        elif change in changes:
            standing.append(number)
        entries.append((entered, change))
    return entries


def in_time_apart(entries):
    """The entries in their time, day by day, reckoned apart from the program."""
    undone = [change[1] for entered, change in entries if change[0] == "undo"]
    told = []
    days = [entered for entered, change in entries] + [change[1] for entered, change in entries if len(change) > 1]
    for day in sorted(set(days)):
        told += [(day, change) for number, (entered, change) in enumerate(entries)
                 if change[0] not in ("undo", "grant", "back") and change[1] == day and number not in undone]
        told += [(day, change) for entered, change in entries if change[0] in ("grant", "back") and entered == day]
    return told


class InTime(unittest.TestCase):
    def assert_in_time(self, entries, told):
        kept = copy.deepcopy(entries)
        self.assertIsNone(check_entries(WEEKLY, entries))
        self.assertEqual(in_time(entries), told)
        self.assertEqual(entries, kept)
        self.assertIsNone(check_entries(WEEKLY, told))
        self.assertEqual(in_time(told), told)

    def test_arguments(self):
        self.assertEqual(str(inspect.signature(in_time)), "(entries)")

    def test_no_entries(self):
        self.assertEqual(in_time([]), [])

    def test_the_list_is_a_new_one(self):
        entries = [WHOLE, (FIRST, ("back",))]
        told = in_time(entries)
        self.assertIs(type(told), list)
        self.assertEqual([(type(entry), type(entry[1])) for entry in told], [(tuple, tuple)] * 2)
        told.clear()
        self.assertEqual(entries, [WHOLE, (FIRST, ("back",))])
        none = []
        in_time(none).append(WHOLE)
        self.assertEqual(none, [])

    def test_terms_are_entered_on_their_own_days(self):
        for change in (("plan", FIRST + 9, "whole"), ("seats", FIRST + 9, 4), ("hold", FIRST + 9), ("go", FIRST + 9),
                       ("stop", FIRST + 9), ("last", FIRST + 9)):
            for entered in (FIRST, FIRST + 8, FIRST + 9, FIRST + 10, LAST):
                self.assert_in_time([(entered, change)], [(FIRST + 9, change)])

    def test_grants_and_backs_stay_on_theirs(self):
        entries = [(FIRST, ("back",)), (FIRST + 3, ("grant", 5)), (FIRST + 3, ("back",)), (FIRST + 3, ("grant", 4)),
                   (LAST, ("back",))]
        self.assert_in_time(entries, list(entries))

    def test_undos_and_what_they_undid_are_left_out(self):
        hold, seats = ("hold", FIRST + 2), ("seats", FIRST + 1, 2)
        self.assert_in_time([(FIRST, hold), (FIRST, ("undo", 0))], [])
        self.assert_in_time([(FIRST, hold), (FIRST + 3, seats), (FIRST + 9, ("undo", 0))], [(FIRST + 1, seats)])
        self.assert_in_time([(FIRST, hold), (FIRST + 3, seats), (FIRST + 9, ("undo", 1))], [(FIRST + 2, hold)])
        # The same term twice: the one that no undo undid stays.
        self.assert_in_time([(FIRST, hold), (FIRST, hold), (FIRST, ("undo", 1)), (FIRST, ("undo", 0)), (LAST, hold)],
                            [(FIRST + 2, hold)])
        self.assert_in_time([(FIRST, hold), (FIRST, hold), (FIRST, ("undo", 0))], [(FIRST + 2, hold)])

    def test_of_one_day_first_the_terms_then_the_others_each_as_they_stood(self):
        day = FIRST + 5
        entries = [(FIRST, ("seats", day, 3)), (FIRST, ("plan", FIRST, "odd")), (day, ("grant", 9)), (day, ("hold", day)),
                   (day, ("back",)), (day, ("grant", 8)), (day + 1, ("go", day)), (day + 1, ("grant", 7)),
                   (day + 2, ("plan", day, "whole")), (LAST, ("seats", day, 2)), (LAST, ("stop", day + 1))]
        self.assert_in_time(entries, [
            (FIRST, ("plan", FIRST, "odd")), (day, ("seats", day, 3)), (day, ("hold", day)), (day, ("go", day)),
            (day, ("plan", day, "whole")), (day, ("seats", day, 2)), (day, ("grant", 9)), (day, ("back",)),
            (day, ("grant", 8)), (day + 1, ("stop", day + 1)), (day + 1, ("grant", 7))])

    def test_days_that_come_ahead_of_those_entered_earlier(self):
        entries = [(LAST - 2, ("hold", WEEKS[3])), (LAST - 1, ("plan", FIRST, "odd")), (LAST, ("seats", WEEKS[1], 2)),
                   (LAST, ("go", LAST))]
        self.assert_in_time(entries, [(FIRST, ("plan", FIRST, "odd")), (WEEKS[1], ("seats", WEEKS[1], 2)),
                                      (WEEKS[3], ("hold", WEEKS[3])), (LAST, ("go", LAST))])

    def test_forty_entries(self):
        entries = [(LAST, ("seats", LAST - number, number)) for number in range(40)]
        self.assert_in_time(entries, [(LAST - number, ("seats", LAST - number, number)) for number in range(39, -1, -1)])

    def test_by_chance(self):
        chance = random.Random(23)
        for turn in range(300):
            entries = entries_by_chance(chance, FIRST, chance.choice((1, 5, 12, 40)), 50)
            self.assert_in_time(entries, in_time_apart(entries))

    def test_each_span_costs_the_same_by_both(self):
        chance = random.Random(24)
        for turn in range(60):
            account, end = chance.choice(ACCOUNTS)
            entries = entries_by_chance(chance, account[1], chance.choice((5, 12, 40)), 50)
            told = in_time(entries)
            self.assertIsNone(check_entries(account, told))
            # Behind both lists, and on the last day, on which nothing is entered in either.
            for day in (max([account[1]] + [entry[0] for entry in entries + told]) + 1, end - 1):
                one, other = terms_at(entries, day), terms_at(told, day)
                for k in range(60):
                    self.assertEqual(span_cost(account, one, k), span_cost(account, other, k))
                self.assertEqual(earned(account, one, day), earned(account, other, day))
                self.assertEqual(book_sums(account, entries, day)[0], book_sums(account, told, day)[0])

    def test_where_all_is_one_the_later_of_two_stays_the_later_one(self):
        entries = [WHOLE, (FIRST + 1, ("plan", WEEKS[1], "twice")), (FIRST + 2, ("plan", WEEKS[1], "half"))]
        self.assertEqual(book_lines(WEEKLY, in_time(entries), WEEKS[1])[1:], [(WEEKS[1], "bill", 1, 350, 0, 0, 350)])


class Moved(unittest.TestCase):
    def assert_moved(self, entries, one, other, told):
        kept = copy.deepcopy((WEEKLY, entries))
        self.assertIsNone(check_entries(WEEKLY, entries))
        self.assertEqual(moved(WEEKLY, entries, one, other), told)
        self.assertEqual((WEEKLY, entries), kept)

    def assert_refused(self, refusal, account, one, other):
        for entries in ([], [(account[1], ("plan", account[1], "odd")), (account[1] + 1, ("hold", account[1]))]):
            with self.assertRaises(refusal) as caught:
                moved(account, entries, one, other)
            self.assertIs(type(caught.exception), refusal)
            self.assertIsInstance(caught.exception, SpanError)

    def test_arguments(self):
        self.assertEqual(str(inspect.signature(moved)), "(account, entries, one, other)")

    def test_nothing(self):
        for entries in ([], [WHOLE], [WHOLE, (FIRST + 2, ("grant", 5)), (FIRST + 3, ("back",))]):
            for one, other in ((FIRST, FIRST), (FIRST, FIRST + 3), (FIRST, LAST), (LAST, LAST), (WEEKS[2], WEEKS[5] - 1)):
                self.assert_moved(entries, one, other, [])

    def test_a_late_change_of_one_span(self):
        day = WEEKS[2] + 3
        entries = [WHOLE, (day, ("hold", FIRST + 2)), (day, ("go", FIRST + 3))]
        self.assert_moved(entries, day - 1, day, [(0, 700, 600)])
        self.assert_moved(entries, FIRST, LAST, [(0, 700, 600)])
        self.assert_moved(entries, FIRST, day - 1, [])
        self.assert_moved(entries, day, day, [])
        self.assert_moved(entries, day, LAST, [])

    def test_several_rising(self):
        day = WEEKS[3] + 2
        entries = [WHOLE, (day, ("plan", WEEKS[2], "twice")), (day, ("plan", WEEKS[1], "whole")),
                   (day, ("plan", FIRST, "half"))]
        told = [(0, 700, 350), (2, 700, 1400), (3, 700, 1400)]
        self.assert_moved(entries, WEEKS[3], day, told)
        self.assert_moved(entries, day - 1, LAST, told)

    def test_spans_that_began_behind_the_first_day_are_not_told(self):
        day = WEEKS[3] + 2
        entries = [WHOLE, (day, ("seats", FIRST, 2))]
        for one, many in ((FIRST, 1), (WEEKS[1] - 1, 1), (WEEKS[1], 2), (WEEKS[2] - 1, 2), (WEEKS[2], 3), (WEEKS[3], 4),
                          (day - 1, 4)):
            for other in (day, WEEKS[4], LAST):
                self.assert_moved(entries, one, other, [(k, 700, 1400) for k in range(many)])

    def test_sixty_spans(self):
        entries = [WHOLE, (LAST, ("stop", FIRST))]
        self.assert_moved(entries, LAST - 1, LAST, [(k, 700, 0) for k in range(60)])
        self.assert_moved(entries, LAST, LAST, [])

    def test_by_what_is_known_at_each_day_with_its_own_entries(self):
        day = FIRST + 3
        entries = [WHOLE, (day, ("seats", FIRST, 2)), (day + 1, ("seats", FIRST, 3)), (day + 2, ("undo", 1)),
                   (day + 3, ("undo", 2))]
        for one, other, told in ((FIRST, day, [(0, 700, 1400)]), (FIRST, day + 1, [(0, 700, 2100)]),
                                 (day, day + 1, [(0, 1400, 2100)]), (day + 1, day + 2, []), (day, day + 3, [(0, 1400, 700)]),
                                 (FIRST, day + 3, []), (day + 2, LAST, [(0, 2100, 700)])):
            self.assert_moved(entries, one, other, told)

    def test_a_term_to_come_moves_the_span_that_has_begun(self):
        entries = [WHOLE, (FIRST + 1, ("hold", FIRST + 5)), (FIRST + 2, ("seats", WEEKS[1], 9))]
        self.assert_moved(entries, FIRST, FIRST + 1, [(0, 700, 500)])
        self.assert_moved(entries, FIRST + 1, FIRST + 2, [])

    def test_the_list_is_a_new_one(self):
        entries = [WHOLE, (FIRST + 1, ("hold", FIRST))]
        told = moved(WEEKLY, entries, FIRST, LAST)
        self.assertIs(type(told), list)
        self.assertIs(type(told[0]), tuple)
        told.clear()
        self.assertEqual(moved(WEEKLY, entries, FIRST, LAST), [(0, 700, 0)])

    def test_by_chance(self):
        chance = random.Random(25)
        for turn in range(60):
            account, end = chance.choice(ACCOUNTS)
            first = account[1]
            entries = entries_by_chance(chance, first, chance.choice((5, 12, 40)), 50)
            for again in range(5):
                one, other = sorted((first + chance.randrange(50), first + chance.randrange(60)))
                before, behind = terms_at(entries, one), terms_at(entries, other)
                begun = [line[2] for line in book_lines(account, entries, one) if line[1] == "bill"]
                costs = [(k, span_cost(account, before, k), span_cost(account, behind, k)) for k in begun]
                self.assertEqual(moved(account, entries, one, other), [cost for cost in costs if cost[1] != cost[2]])

    def test_days_that_are_none_of_the_account_the_first_one_first(self):
        for account, end in ACCOUNTS:
            first = account[1]
            ahead, behind = (first - 1, -SIXTY_FIGURES, -MANY_FIGURES), (end, end + 1, SIXTY_FIGURES, MANY_FIGURES)
            for early in ahead:
                for other in (first, end - 1) + ahead + behind:
                    self.assert_refused(NoSpan, account, early, other)
                self.assert_refused(NoSpan, account, first, early)
                self.assert_refused(NoSpan, account, end - 1, early)
            for late in behind:
                for other in (first, end - 1) + ahead + behind:
                    self.assert_refused(TooLong, account, late, other)
                self.assert_refused(TooLong, account, first, late)
                self.assert_refused(TooLong, account, end - 1, late)

    def test_the_first_behind_the_second(self):
        for account, end in ACCOUNTS:
            first = account[1]
            for one, other in ((first + 1, first), (end - 1, first), (end - 1, end - 2)):
                self.assert_refused(NoSpan, account, one, other)


if __name__ == "__main__":
    unittest.main()
