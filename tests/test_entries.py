"""Entries of an account, and what is known at a moment (points 12, 13)."""

import copy
import inspect
import random
import unittest

from paidspan.entries import check_entries, terms_at
from paidspan.errors import NoEntry, SpanError, TooLong

SIXTY_FIGURES = 10 ** 59
# More figures than Python writes out by itself: no refusal may try to.
MANY_FIGURES = 10 ** 5000
THIRTY_FIGURES = 10 ** 30 - 1

PLANS = [("basic", 1250, 0), ("pro", 2900, 30), ("max", 0, 7)]
# 31 January 2024 by the month; its span 59 ends on 31 January 2029.
FIRST = 738915
END = 740742
ACCOUNT = (PLANS, FIRST, ("months", 1))
# Each with the end of its span 59.
ACCOUNTS = (
    (ACCOUNT, END), ((PLANS, 0, ("days", 1)), 60), ((PLANS, 0, ("months", 12)), 21915),
    ((PLANS, 7, ("days", 400)), 24007), ((PLANS, 3500000, ("days", 30)), 3501800))

TERM_WORDS = ("plan", "seats", "hold", "go", "stop", "last")
SHORT_WORDS = ("hold", "go", "stop", "last")


def term(word, day):
    if word == "plan":
        return ("plan", day, "pro")
    if word == "seats":
        return ("seats", day, 3)
    return (word, day)


DAY = FIRST + 100
GOOD = (("plan", DAY, "basic"), ("grant", 500), ("hold", DAY), ("back",), ("undo", 0), ("seats", DAY, 7), ("last", DAY))


class Case(unittest.TestCase):
    def assert_entries(self, account, entries):
        kept = copy.deepcopy((account, entries))
        self.assertIsNone(check_entries(account, entries), entries)
        self.assertEqual((account, entries), kept)

    def assert_refused(self, account, entries, number):
        kept = copy.deepcopy((account, entries))
        with self.assertRaises(NoEntry) as caught:
            check_entries(account, entries)
        self.assertIs(type(caught.exception), NoEntry)
        self.assertIsInstance(caught.exception, SpanError)
        self.assertEqual(caught.exception.number, number)
        self.assertEqual((account, entries), kept)

    def assert_too_long(self, account, entries):
        with self.assertRaises(TooLong) as caught:
            check_entries(account, entries)
        self.assertIs(type(caught.exception), TooLong)

    def assert_no_change(self, change):
        """Wherever its entry stands among others, and whatever stands behind it."""
        good = [(DAY, other) for other in GOOD]
        for place in (0, 1, len(good)):
            entries = good[:place] + [(DAY, change)]
            self.assert_refused(ACCOUNT, entries, place)
            self.assert_refused(ACCOUNT, entries + [(DAY, ("back",)), (DAY, ()), (FIRST - 1, change)], place)


class CheckEntries(Case):
    def test_arguments(self):
        self.assertEqual(str(inspect.signature(check_entries)), "(account, entries)")

    def test_none_to_forty(self):
        for account, end in ACCOUNTS:
            day = account[1]
            for many in (0, 1, 2, 39, 40):
                self.assert_entries(account, [(day, ("back",))] * many)
                self.assert_entries(account, [(day, ("seats", day, number)) for number in range(many)])

    def test_more_than_forty(self):
        for many in (41, 42, 100, 5000):
            self.assert_too_long(ACCOUNT, [(FIRST, ("back",))] * many)
            self.assert_too_long(ACCOUNT, [(FIRST, ("seats", FIRST, number)) for number in range(many)])

    def test_more_than_forty_goes_ahead_of_an_entry_that_is_none(self):
        for bad in ((FIRST, ()), (FIRST - 1, ("back",)), (END, ("back",)), (FIRST, ("undo", 0))):
            for place in (0, 20, 40):
                entries = [(FIRST, ("back",))] * 40
                entries.insert(place, bad)
                self.assert_too_long(ACCOUNT, entries)
        self.assert_too_long(ACCOUNT, [(FIRST, ())] * 41)
        self.assert_refused(ACCOUNT, [(FIRST, ())] * 40, 0)
        self.assert_refused(ACCOUNT, [(FIRST, ("back",))] * 39 + [(FIRST, ())], 39)

    def test_terms_from_ahead_on_and_behind_the_day_they_are_entered(self):
        for word in TERM_WORDS:
            for entered in (FIRST + 50, FIRST + 51, FIRST + 500):
                for day in (FIRST, entered - 50, entered - 1, entered, entered + 1, entered + 50, END - 1):
                    self.assert_entries(ACCOUNT, [(entered, term(word, day))])

    def test_first_and_last_day_of_the_account(self):
        for account, end in ACCOUNTS:
            first = account[1]
            for word in TERM_WORDS:
                for entered in (first, first + 1, end - 1):
                    for day in (first, first + 1, end - 2, end - 1):
                        self.assert_entries(account, [(entered, term(word, day))])
                        self.assert_entries(account, [(first, ("back",)), (entered, term(word, day)), (end - 1, ("back",))])

    def test_entered_on_no_day_of_the_account(self):
        for account, end in ACCOUNTS:
            first = account[1]
            for change in [term(word, first) for word in TERM_WORDS] + [("grant", 1), ("back",)]:
                for entered in (first - 1, first - 2, -1 - first, end, end + 1, 3652059, SIXTY_FIGURES, -SIXTY_FIGURES,
                                MANY_FIGURES, -MANY_FIGURES):
                    self.assert_refused(account, [(entered, change)], 0)
                    self.assert_refused(account, [(first, ("back",)), (first, change), (entered, change)], 2)
        self.assert_refused((PLANS, 0, ("days", 1)), [(True, ("back",))], 0)
        self.assert_refused((PLANS, 0, ("days", 1)), [(False, ("back",))], 0)
        self.assert_refused(ACCOUNT, [(FIRST, ("hold", FIRST)), (END, ("undo", 0))], 1)

    def test_entered_ahead_of_the_one_in_front(self):
        days = [FIRST, FIRST, FIRST + 3, FIRST + 3, FIRST + 4, END - 2, END - 1, END - 1]
        self.assert_entries(ACCOUNT, [(day, ("back",)) for day in days])
        for change in [term(word, FIRST) for word in TERM_WORDS] + [("grant", 1), ("back",)]:
            for entered in (FIRST, FIRST + 98, FIRST + 99):
                self.assert_refused(ACCOUNT, [(DAY, ("back",)), (entered, change)], 1)
                self.assert_refused(ACCOUNT, [(FIRST, ("back",)), (DAY, ("back",)), (entered, change)], 2)
        self.assert_refused(ACCOUNT, [(DAY, ("hold", DAY)), (DAY - 1, ("undo", 0))], 1)
        # Against the one right in front, not against the latest of all.
        self.assert_refused(ACCOUNT, [(FIRST, ("back",)), (DAY, ("back",)), (DAY - 1, ("back",)), (FIRST, ("back",))], 2)

    def test_from_no_day_of_the_account(self):
        for account, end in ACCOUNTS:
            first = account[1]
            for word in TERM_WORDS:
                for day in (first - 1, first - 2, -1 - first, end, end + 1, 3652059, SIXTY_FIGURES, -SIXTY_FIGURES,
                            MANY_FIGURES, -MANY_FIGURES, "", "2024-02-01", "pro", str(first), True, False):
                    self.assert_refused(account, [(first, term(word, day))], 0)
                    self.assert_refused(account, [(first, ("back",)), (end - 1, term(word, day))], 1)

    def test_plans(self):
        for name in ("basic", "pro", "max"):
            self.assert_entries(ACCOUNT, [(DAY, ("plan", DAY, name))])
        for name in ("", "b", "basi", "basics", "Basic", "PRO", " pro", "pro ", "pro\n", "gold", "None", "-", 0, 1, -1, 1250,
                     SIXTY_FIGURES, MANY_FIGURES, True, False):
            self.assert_no_change(("plan", DAY, name))
        self.assert_refused(([("gold", 1, 0)], FIRST, ("months", 1)), [(DAY, ("plan", DAY, "pro"))], 0)
        self.assert_entries(([("gold", 1, 0)], FIRST, ("months", 1)), [(DAY, ("plan", DAY, "gold"))])

    def test_seats(self):
        for many in (0, 1, 2, 999999, 1000000):
            self.assert_entries(ACCOUNT, [(DAY, ("seats", DAY, many))])
        for many in (-1, -2, -1000000, 1000001, 1000002, SIXTY_FIGURES, -SIXTY_FIGURES, MANY_FIGURES, -MANY_FIGURES,
                     "", "0", "1", "many", "pro", True, False):
            self.assert_no_change(("seats", DAY, many))

    def test_grants(self):
        for amount in (1, 2, 1250, 10 ** 29, THIRTY_FIGURES - 1, THIRTY_FIGURES):
            self.assert_entries(ACCOUNT, [(DAY, ("grant", amount))])
        for amount in (0, -1, -2, -THIRTY_FIGURES, 10 ** 30, 10 ** 30 + 1, SIXTY_FIGURES, -SIXTY_FIGURES, MANY_FIGURES,
                       -MANY_FIGURES, "", "1", "12.50", True, False):
            self.assert_no_change(("grant", amount))

    def test_other_words(self):
        for word in ("", "Plan", "PLAN", "seat", "held", "on", "off", "given", "undone", "grants", "backs", " hold", "go ",
                     "stop\n", "la", "payback", 0, 1, -1, DAY, MANY_FIGURES, True, False):
            for rest in ((), (DAY,), (0,), (1,), (DAY, "pro"), (DAY, 3)):
                self.assert_no_change((word,) + rest)

    def test_too_few_or_too_many_things(self):
        self.assert_no_change(())
        for word in TERM_WORDS + ("undo", "grant"):
            self.assert_no_change((word,))
        for word in ("plan", "seats"):
            self.assert_no_change((word, DAY))
            for more in ((DAY,), ("pro",), (3,), (3, 3), ("pro", "pro"), ("",)):
                self.assert_no_change(term(word, DAY) + more)
        for word in SHORT_WORDS:
            for more in ((DAY,), ("pro",), (3,), (DAY, DAY), ("",), (0,)):
                self.assert_no_change((word, DAY) + more)
        for more in ((1,), ("",), (1, 1), ("pro",)):
            self.assert_no_change(("grant", 1) + more)
        for more in ((0,), (DAY,), ("",), ("back",), (1, 1)):
            self.assert_no_change(("back",) + more)
        self.assert_refused(ACCOUNT, [(DAY, ("hold", DAY)), (DAY, ("undo", 0, 0))], 1)
        self.assert_refused(ACCOUNT, [(DAY, ("hold", DAY)), (DAY, ("undo", 0, ""))], 1)
        self.assert_refused(ACCOUNT, [(DAY, ("hold", DAY)), (DAY, ("undo",))], 1)

    def test_things_in_another_order(self):
        for change in ((DAY, "hold"), ("plan", "pro", DAY), ("pro", DAY, "plan"), (DAY, "plan", "pro"), ("seats", 3, DAY),
                       (500, "grant"), (0, "undo")):
            self.assert_no_change(change)

    def test_the_first_that_breaks_a_rule(self):
        good = (DAY, ("back",))
        bad = [(DAY, ()), (DAY, ("undo", 0)), (FIRST - 1, ("back",)), (END, ("hold", DAY)), (DAY, ("plan", DAY, "gold")),
               (DAY, ("seats", DAY, -1)), (DAY, ("grant", 0)), (DAY, ("stop", END))]
        for one in bad:
            for other in bad:
                for ahead in (0, 1, 5):
                    self.assert_refused(ACCOUNT, [good] * ahead + [one, good, other], ahead)
                    self.assert_refused(ACCOUNT, [good] * ahead + [one, other], ahead)


class CheckUndos(Case):
    def test_undo_of_a_term_ahead(self):
        for word in TERM_WORDS:
            for day in (FIRST, DAY, DAY + 1, END - 1):
                for entered in (DAY, DAY + 1, END - 1):
                    self.assert_entries(ACCOUNT, [(DAY, term(word, day)), (entered, ("undo", 0))])
                    self.assert_entries(ACCOUNT, [
                        (FIRST, ("back",)), (FIRST, ("grant", 1)), (DAY, term(word, day)), (DAY, ("hold", DAY)),
                        (entered, ("back",)), (entered, ("undo", 2))])

    def test_undos_of_several(self):
        terms = [(DAY, term(word, DAY)) for word in TERM_WORDS]
        for numbers in ((0, 1, 2, 3, 4, 5), (5, 4, 3, 2, 1, 0), (3, 0, 5)):
            self.assert_entries(ACCOUNT, terms + [(DAY, ("undo", number)) for number in numbers])
        self.assert_entries(ACCOUNT, [
            (DAY, ("hold", DAY)), (DAY, ("undo", 0)), (DAY, ("hold", DAY)), (DAY, ("undo", 2)), (DAY, ("hold", DAY))])
        self.assert_entries(ACCOUNT, [(DAY, ("hold", DAY)) if number % 2 == 0 else (DAY, ("undo", number - 1))
                                      for number in range(40)])

    def test_of_itself_of_a_later_one_and_of_none(self):
        terms = [(DAY, term(word, DAY)) for word in TERM_WORDS]
        for many in (0, 1, 3, 6):
            for number in (many, many + 1, many + 2, 39, 40, 41, SIXTY_FIGURES, MANY_FIGURES, -1, -2, -many - 1,
                           -SIXTY_FIGURES, -MANY_FIGURES):
                for behind in ([], terms):
                    self.assert_refused(ACCOUNT, terms[:many] + [(DAY, ("undo", number))] + behind, many)

    def test_numbers_that_are_none(self):
        terms = [(DAY, term(word, DAY)) for word in TERM_WORDS]
        for number in ("", "0", "1", "hold", "plan", True, False):
            self.assert_refused(ACCOUNT, terms + [(DAY, ("undo", number))], 6)

    def test_of_a_grant_a_back_or_an_undo(self):
        entries = [(DAY, ("hold", DAY)), (DAY, ("grant", 1)), (DAY, ("back",)), (DAY, ("undo", 0)), (DAY, ("go", DAY))]
        self.assert_entries(ACCOUNT, entries + [(DAY, ("undo", 4))])
        for number in (1, 2, 3):
            self.assert_refused(ACCOUNT, entries + [(DAY, ("undo", number))], 5)
            self.assert_refused(ACCOUNT, entries + [(DAY, ("undo", 4)), (DAY, ("undo", number))], 6)

    def test_of_a_term_that_was_undone_already(self):
        for word in TERM_WORDS:
            entries = [(DAY, ("grant", 1)), (DAY, term(word, DAY)), (DAY, ("undo", 1))]
            for entered in (DAY, DAY + 1):
                self.assert_refused(ACCOUNT, entries + [(entered, ("undo", 1))], 3)
                self.assert_refused(ACCOUNT, entries + [(entered, term(word, DAY)), (entered, ("undo", 1))], 4)
        # An undo can't be undone: so its term stays undone.
        self.assert_refused(ACCOUNT, [(DAY, ("hold", DAY)), (DAY, ("undo", 0)), (DAY, ("undo", 1)), (DAY, ("undo", 0))], 2)


def known_apart(entries, moment):
    """What is known at a moment, reckoned apart from the program: each term by itself."""
    known = []
    for number, (entered, change) in enumerate(entries):
        if entered > moment or change[0] in ("undo", "grant", "back"):
            continue
        if not any(day <= moment and other == ("undo", number) for day, other in entries):
            known.append((number, change))
    return known


def entries_by_chance(chance, many):
    days = sorted(chance.choice((FIRST, DAY, DAY + 1, DAY + 5, DAY + 6, END - 1)) for place in range(many))
    entries = []
    for day in days:
        undone = [change[1] for entered, change in entries if change[0] == "undo"]
        open_terms = [number for number, (entered, change) in enumerate(entries)
                      if change[0] in TERM_WORDS and number not in undone]
        changes = [("grant", 5), ("back",)] + [term(word, chance.randrange(FIRST, END)) for word in TERM_WORDS]
        if open_terms:
            changes += [("undo", chance.choice(open_terms))] * 4
        entries.append((day, chance.choice(changes)))
    return entries


class TermsAt(Case):
    def assert_known(self, entries, moment, known):
        kept = copy.deepcopy(entries)
        told = terms_at(entries, moment)
        self.assertEqual(told, known, (entries, moment))
        self.assertIs(type(told), list)
        self.assertEqual([type(one) for one in told], [tuple] * len(told))
        self.assertEqual(entries, kept)

    def test_arguments(self):
        self.assertEqual(str(inspect.signature(terms_at)), "(entries, moment)")

    def test_no_entries(self):
        for moment in (FIRST, DAY, END - 1):
            self.assert_known([], moment, [])

    def test_each_term_ahead_of_on_and_behind_its_day(self):
        for word in TERM_WORDS:
            for day in (FIRST, DAY - 1, DAY, DAY + 1, END - 1):
                change = term(word, day)
                for moment, known in ((FIRST, []), (DAY - 1, []), (DAY, [(0, change)]), (DAY + 1, [(0, change)]),
                                      (END - 1, [(0, change)])):
                    self.assert_known([(DAY, change)], moment, known)

    def test_grants_and_backs_are_none(self):
        self.assert_known([(DAY, ("grant", 1)), (DAY, ("back",))], DAY, [])
        entries = [(DAY, ("grant", 1)), (DAY, ("hold", DAY)), (DAY, ("back",)), (DAY, ("go", DAY)), (DAY, ("grant", 2))]
        self.assert_known(entries, DAY, [(1, ("hold", DAY)), (3, ("go", DAY))])

    def test_a_term_and_its_undo_on_one_day(self):
        entries = [(DAY, ("hold", FIRST)), (DAY, ("undo", 0))]
        for moment in (FIRST, DAY - 1, DAY, DAY + 1, END - 1):
            self.assert_known(entries, moment, [])

    def test_a_term_and_its_undo_on_two_days(self):
        entries = [(DAY, ("hold", FIRST)), (DAY + 3, ("undo", 0))]
        for moment, known in ((DAY - 1, []), (DAY, [(0, ("hold", FIRST))]), (DAY + 2, [(0, ("hold", FIRST))]),
                              (DAY + 3, []), (DAY + 4, []), (END - 1, [])):
            self.assert_known(entries, moment, known)

    def test_two_undos_of_two_terms(self):
        one, two, three = ("plan", DAY, "pro"), ("seats", DAY, 3), ("hold", DAY)
        entries = [(DAY, one), (DAY + 1, two), (DAY + 2, three), (DAY + 3, ("undo", 1)), (DAY + 4, ("undo", 0))]
        for moment, known in ((DAY, [(0, one)]), (DAY + 1, [(0, one), (1, two)]), (DAY + 2, [(0, one), (1, two), (2, three)]),
                              (DAY + 3, [(0, one), (2, three)]), (DAY + 4, [(2, three)]), (DAY + 9, [(2, three)])):
            self.assert_known(entries, moment, known)

    def test_rising_by_number_not_by_day(self):
        entries = [(DAY, ("hold", DAY + 9)), (DAY, ("go", DAY + 3)), (DAY + 1, ("stop", FIRST)), (DAY + 2, ("seats", DAY, 2))]
        self.assert_known(entries, DAY + 2, [(0, ("hold", DAY + 9)), (1, ("go", DAY + 3)), (2, ("stop", FIRST)),
                                             (3, ("seats", DAY, 2))])

    def test_forty(self):
        entries = [(DAY + number // 2, ("seats", DAY, number)) for number in range(40)]
        self.assert_known(entries, END - 1, [(number, ("seats", DAY, number)) for number in range(40)])
        self.assert_known(entries, DAY + 9, [(number, ("seats", DAY, number)) for number in range(20)])

    def test_lists_by_chance(self):
        chance = random.Random(1213)
        for turn in range(300):
            entries = entries_by_chance(chance, chance.randrange(41))
            self.assert_entries(ACCOUNT, entries)
            for moment in (FIRST, DAY - 1, DAY, DAY + 1, DAY + 5, DAY + 6, END - 2, END - 1):
                self.assert_known(entries, moment, known_apart(entries, moment))

    def test_the_list_is_a_new_one(self):
        entries = [(DAY, ("hold", DAY)), (DAY, ("go", DAY + 1))]
        told = terms_at(entries, DAY)
        self.assertIsNot(told, terms_at(entries, DAY))
        told.clear()
        self.assert_known(entries, DAY, [(0, ("hold", DAY)), (1, ("go", DAY + 1))])
        told = terms_at(entries, DAY)
        entries.clear()
        self.assertEqual(told, [(0, ("hold", DAY)), (1, ("go", DAY + 1))])


if __name__ == "__main__":
    unittest.main()
