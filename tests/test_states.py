"""From which day a term counts, the state of a day, stretches of one state (points 14, 15)."""

import calendar
import copy
import datetime
import inspect
import random
import unittest

from paidspan.errors import NoSpan, SpanError, TooLong
from paidspan.states import counts_from, state_on, stretches

SIXTY_FIGURES = 10 ** 59
# More figures than Python writes out by itself: no refusal may try to.
MANY_FIGURES = 10 ** 5000

PLANS = [("basic", 1250, 0), ("pro", 2900, 30), ("max", 0, 7)]
NONE = (None, 1, "on")
WORDS = {"hold": "held", "go": "on", "stop": "off", "last": "off"}


def number_of(year, month, day):
    """The day's number, reckoned apart from the program."""
    return datetime.date(year, month, day).toordinal() - 1


def begin_apart(account, k):
    """Where span k begins, reckoned apart from the program."""
    plans, first, (word, many) = account
    if word == "days":
        return first + k * many
    date = datetime.date.fromordinal(first + 1)
    year, month = divmod(date.year * 12 + date.month - 1 + k * many, 12)
    return number_of(year, month + 1, min(date.day, calendar.monthrange(year, month + 1)[1]))


FIRST = number_of(2024, 1, 31)
MONTHLY = (PLANS, FIRST, ("months", 1))
WEEKLY = (PLANS, FIRST, ("days", 7))
DAILY = (PLANS, 0, ("days", 1))
ACCOUNTS = (MONTHLY, WEEKLY, DAILY, (PLANS, 0, ("months", 12)), (PLANS, 3500000, ("days", 400)),
            (PLANS, number_of(2023, 12, 31), ("months", 5)), (PLANS, 17, ("days", 2)))
# The begins of the weekly account's first spans.
WEEKS = [FIRST + 7 * k for k in range(61)]


def end_apart(account):
    return begin_apart(account, 60)


def counts_apart(account, change):
    """From which day a term counts, reckoned apart from the program: span by span."""
    if change[0] != "last":
        return change[1]
    return next(end for end in (begin_apart(account, k) for k in range(1, 61)) if change[1] < end)


def is_later(one, other):
    """Whether the first of two (counts, own day, number) is the later one, rule by rule."""
    if one[0] != other[0]:
        return one[0] > other[0]
    if one[1] != other[1]:
        return one[1] > other[1]
    return one[2] > other[2]


def latest_apart(account, terms, words, day):
    """The change of the latest term of these words that counts on a day, or None."""
    found, change_found = None, None
    for number, change in terms:
        place = (counts_apart(account, change), change[1], number)
        if change[0] in words and place[0] <= day and (found is None or is_later(place, found)):
            found, change_found = place, change
    return change_found


def state_apart(account, terms, day):
    """The state of a day, reckoned apart from the program."""
    plan = latest_apart(account, terms, ("plan",), day)
    seats = latest_apart(account, terms, ("seats",), day)
    word = latest_apart(account, terms, tuple(WORDS), day)
    return (plan[2] if plan else None, seats[2] if seats else 1, WORDS[word[0]] if word else "on")


def terms_of(*changes):
    return list(enumerate(changes))


def terms_by_chance(chance, account, many):
    """Terms with days that often meet one another and the ends of spans, numbered with gaps."""
    ends = [begin_apart(account, chance.randrange(61)) for place in range(3)] + [account[1], end_apart(account)]
    days = [min(max(end + step, account[1]), end_apart(account) - 1) for end in ends for step in (-2, -1, 0, 1)]
    terms = []
    for number in sorted(chance.sample(range(60), many)):
        day = chance.choice(days + [chance.randrange(account[1], end_apart(account))])
        terms.append((number, chance.choice([
            ("plan", day, chance.choice(("basic", "pro", "max"))), ("seats", day, chance.choice((0, 1, 2, 1000000))),
            ("hold", day), ("go", day), ("stop", day), ("last", day)])))
    return terms


class Case(unittest.TestCase):
    def assert_state(self, account, terms, day, state):
        kept = copy.deepcopy((account, terms))
        told = state_on(account, terms, day)
        self.assertEqual(told, state, (account, terms, day))
        self.assertIs(type(told), tuple)
        self.assertEqual((account, terms), kept)

    def assert_states(self, account, terms, told):
        for day, state in told:
            self.assert_state(account, terms, day, state)

    def assert_words(self, terms, told):
        self.assert_states(WEEKLY, terms, [(day, (None, 1, word)) for day, word in told])


class CountsFrom(Case):
    def test_arguments(self):
        self.assertEqual(str(inspect.signature(counts_from)), "(account, change)")

    def test_from_its_own_day(self):
        for account in ACCOUNTS:
            for day in (account[1], account[1] + 1, begin_apart(account, 1), end_apart(account) - 1):
                for change in (("plan", day, "pro"), ("seats", day, 3), ("hold", day), ("go", day), ("stop", day)):
                    self.assertEqual(counts_from(account, change), day)

    def test_last_from_the_end_of_its_span(self):
        for account in ACCOUNTS:
            for k in range(60):
                begin, end = begin_apart(account, k), begin_apart(account, k + 1)
                for day in {begin, (begin + end) // 2, end - 1}:
                    self.assertEqual(counts_from(account, ("last", day)), end)

    def test_known_days(self):
        for date, end in (((2024, 1, 31), (2024, 2, 29)), ((2024, 2, 28), (2024, 2, 29)), ((2024, 2, 29), (2024, 3, 31)),
                          ((2024, 3, 30), (2024, 3, 31)), ((2024, 3, 31), (2024, 4, 30)), ((2029, 1, 30), (2029, 1, 31))):
            self.assertEqual(counts_from(MONTHLY, ("last", number_of(*date))), number_of(*end))


class StateOn(Case):
    def test_arguments(self):
        self.assertEqual(str(inspect.signature(state_on)), "(account, terms, day)")

    def test_no_term(self):
        for account in ACCOUNTS:
            for day in (account[1], account[1] + 1, end_apart(account) - 1):
                self.assert_state(account, [], day, NONE)

    def test_each_word(self):
        day = WEEKS[2] + 3
        for change, state in ((("plan", day, "pro"), ("pro", 1, "on")), (("seats", day, 5), (None, 5, "on")),
                              (("seats", day, 0), (None, 0, "on")), (("hold", day), (None, 1, "held")),
                              (("go", day), NONE), (("stop", day), (None, 1, "off"))):
            self.assert_states(WEEKLY, terms_of(change), [
                (FIRST, NONE), (day - 1, NONE), (day, state), (day + 1, state), (WEEKS[60] - 1, state)])

    def test_last(self):
        for day in (WEEKS[2], WEEKS[2] + 3, WEEKS[3] - 1):
            self.assert_words(terms_of(("last", day)), [
                (FIRST, "on"), (WEEKS[2], "on"), (WEEKS[3] - 1, "on"), (WEEKS[3], "off"), (WEEKS[60] - 1, "off")])

    def test_last_in_the_last_span(self):
        for account in ACCOUNTS:
            begin, end = begin_apart(account, 59), end_apart(account)
            for day in (begin, (begin + end) // 2, end - 1):
                for asked in (account[1], begin, end - 1):
                    self.assert_state(account, terms_of(("last", day)), asked, NONE)
            self.assert_state(account, terms_of(("last", begin - 1)), begin - 1, NONE)
            self.assert_state(account, terms_of(("last", begin - 1)), begin, (None, 1, "off"))

    def test_first_and_last_day_of_the_account(self):
        for account in ACCOUNTS:
            first, last = account[1], end_apart(account) - 1
            for change, state in ((("plan", first, "pro"), ("pro", 1, "on")), (("seats", first, 5), (None, 5, "on")),
                                  (("hold", first), (None, 1, "held")), (("stop", first), (None, 1, "off"))):
                self.assert_state(account, terms_of(change), first, state)
                self.assert_state(account, terms_of(change), last, state)
            for change, state in ((("plan", last, "pro"), ("pro", 1, "on")), (("seats", last, 5), (None, 5, "on")),
                                  (("hold", last), (None, 1, "held")), (("stop", last), (None, 1, "off"))):
                self.assert_state(account, terms_of(change), last - 1, NONE)
                self.assert_state(account, terms_of(change), last, state)

    def test_the_sorts_stand_beside_one_another(self):
        day = WEEKS[1]
        terms = terms_of(("plan", day, "pro"), ("seats", day + 1, 4), ("hold", day + 2), ("plan", day + 3, "max"),
                         ("go", day + 4), ("seats", day + 5, 0), ("stop", day + 6))
        self.assert_states(WEEKLY, terms, [
            (day - 1, NONE), (day, ("pro", 1, "on")), (day + 1, ("pro", 4, "on")), (day + 2, ("pro", 4, "held")),
            (day + 3, ("max", 4, "held")), (day + 4, ("max", 4, "on")), (day + 5, ("max", 0, "on")),
            (day + 6, ("max", 0, "off")), (day + 7, ("max", 0, "off"))])

    def test_by_the_day_from_which_they_count_not_by_number(self):
        day = WEEKS[1]
        terms = terms_of(("plan", day + 5, "pro"), ("plan", day, "basic"), ("seats", day + 5, 9), ("seats", day, 3),
                         ("stop", day + 5), ("hold", day))
        self.assert_states(WEEKLY, terms, [
            (day - 1, NONE), (day, ("basic", 3, "held")), (day + 4, ("basic", 3, "held")), (day + 5, ("pro", 9, "off"))])

    def test_two_from_one_day_by_their_numbers(self):
        day = WEEKS[1] + 2
        for one, other in ((("plan", day, "pro"), ("plan", day, "max")), (("seats", day, 3), ("seats", day, 0))):
            place = 0 if one[0] == "plan" else 1
            for terms, told in ((terms_of(one, other), other[2]), (terms_of(other, one), one[2])):
                self.assertEqual(state_on(WEEKLY, terms, day)[place], told)
        for one in ("hold", "go", "stop"):
            for other in ("hold", "go", "stop"):
                self.assert_words(terms_of((one, day), (other, day)), [(day - 1, "on"), (day, WORDS[other])])

    def test_numbers_as_numbers_not_as_places(self):
        day = WEEKS[1]
        self.assert_words([(9, ("hold", day)), (10, ("stop", day))], [(day, "off")])
        self.assert_words([(2, ("stop", day)), (10, ("hold", day))], [(day, "held")])

    def test_last_beside_those_from_the_next_begin(self):
        # They count from one day, but the own day of last is the earlier one, whatever the numbers.
        for word in ("hold", "go", "stop"):
            for day in (WEEKS[2], WEEKS[2] + 3, WEEKS[3] - 1):
                for terms in (terms_of(("last", day), (word, WEEKS[3])), terms_of((word, WEEKS[3]), ("last", day))):
                    self.assert_words(terms, [(WEEKS[3] - 1, "on"), (WEEKS[3], WORDS[word]), (WEEKS[4], WORDS[word])])

    def test_last_beside_those_within_its_span(self):
        # It counts from the later day, so it is the later one, whatever the own days and numbers.
        for word in ("hold", "go", "stop"):
            for day in (WEEKS[2], WEEKS[2] + 3, WEEKS[3] - 1):
                for other in (WEEKS[2], WEEKS[2] + 3, WEEKS[3] - 1):
                    for terms in (terms_of(("last", day), (word, other)), terms_of((word, other), ("last", day))):
                        self.assert_words(terms, [(other, WORDS[word]), (WEEKS[3] - 1, WORDS[word]), (WEEKS[3], "off")])

    def test_last_and_those_behind(self):
        for word in ("hold", "go", "stop"):
            terms = terms_of((word, WEEKS[3] + 1), ("last", WEEKS[2]))
            self.assert_words(terms, [(WEEKS[3] - 1, "on"), (WEEKS[3], "off"), (WEEKS[3] + 1, WORDS[word])])

    def test_two_lasts(self):
        self.assert_words(terms_of(("last", WEEKS[2]), ("last", WEEKS[2] + 1)), [(WEEKS[3] - 1, "on"), (WEEKS[3], "off")])
        terms = terms_of(("last", WEEKS[5]), ("last", WEEKS[2]), ("go", WEEKS[4]))
        self.assert_words(terms, [(WEEKS[3] - 1, "on"), (WEEKS[3], "off"), (WEEKS[4], "on"), (WEEKS[5], "on"),
                                  (WEEKS[6], "off")])

    def test_terms_by_chance(self):
        chance = random.Random(1415)
        for turn in range(400):
            account = chance.choice(ACCOUNTS)
            terms = terms_by_chance(chance, account, chance.randrange(41))
            days = [account[1], end_apart(account) - 1, chance.randrange(account[1], end_apart(account))]
            days += [counts_apart(account, change) + step for number, change in terms[:6] for step in (-1, 0)]
            for day in days:
                if account[1] <= day < end_apart(account):
                    self.assert_state(account, terms, day, state_apart(account, terms, day))

    def assert_refused(self, refusal, account, terms, day):
        with self.assertRaises(refusal) as caught:
            state_on(account, terms, day)
        self.assertIs(type(caught.exception), refusal)
        self.assertIsInstance(caught.exception, SpanError)

    def test_days_that_are_none_of_the_account(self):
        for account in ACCOUNTS:
            first, end = account[1], end_apart(account)
            for terms in ([], terms_of(("plan", first, "pro"), ("last", end - 1))):
                for day in (first - 1, first - 2, first - 400, -1 - first, -SIXTY_FIGURES, -MANY_FIGURES):
                    self.assert_refused(NoSpan, account, terms, day)
                for day in (end, end + 1, end + 400, 3652059, SIXTY_FIGURES, MANY_FIGURES):
                    self.assert_refused(TooLong, account, terms, day)


class Stretches(Case):
    def assert_stretches(self, account, terms, begin, end, told):
        kept = copy.deepcopy((account, terms))
        self.assertEqual(stretches(account, terms, begin, end), told)
        self.assertEqual((account, terms), kept)

    def test_arguments(self):
        self.assertEqual(str(inspect.signature(stretches)), "(account, terms, begin, end)")

    def test_from_a_day_to_itself(self):
        for account in ACCOUNTS:
            first, last = account[1], end_apart(account) - 1
            for terms in ([], terms_of(("plan", first, "pro"), ("hold", last))):
                for day in (first, first + 1, last):
                    self.assert_stretches(account, terms, day, day, [])

    def test_no_terms(self):
        for account in ACCOUNTS:
            first, end = account[1], end_apart(account)
            for begin, behind in ((first, first + 1), (first, end), (end - 1, end), (first + 1, end - 1)):
                self.assert_stretches(account, [], begin, behind, [(begin, behind, NONE)])

    def test_a_whole_span(self):
        begin, end = WEEKS[2], WEEKS[3]
        terms = terms_of(("plan", FIRST, "pro"), ("seats", begin + 2, 3), ("hold", begin + 4), ("go", end))
        self.assert_stretches(WEEKLY, terms, begin, end, [
            (begin, begin + 2, ("pro", 1, "on")), (begin + 2, begin + 4, ("pro", 3, "on")),
            (begin + 4, end, ("pro", 3, "held"))])

    def test_the_whole_account(self):
        first, end = WEEKS[0], WEEKS[60]
        terms = terms_of(("plan", first, "pro"), ("last", WEEKS[2]), ("go", WEEKS[3] + 1), ("hold", end - 1))
        self.assert_stretches(WEEKLY, terms, first, end, [
            (first, WEEKS[3], ("pro", 1, "on")), (WEEKS[3], WEEKS[3] + 1, ("pro", 1, "off")),
            (WEEKS[3] + 1, end - 1, ("pro", 1, "on")), (end - 1, end, ("pro", 1, "held"))])

    def test_terms_on_the_first_day_and_on_the_end(self):
        begin, end = WEEKS[2], WEEKS[3]
        for change, state in ((("plan", begin, "pro"), ("pro", 1, "on")), (("hold", begin), (None, 1, "held")),
                              (("last", begin - 1), (None, 1, "off"))):
            self.assert_stretches(WEEKLY, terms_of(change), begin, end, [(begin, end, state)])
            self.assert_stretches(WEEKLY, terms_of(change), begin - 1, end, [(begin - 1, begin, NONE), (begin, end, state)])
        for change in (("plan", end, "pro"), ("hold", end), ("last", begin), ("last", end - 1)):
            self.assert_stretches(WEEKLY, terms_of(change), begin, end, [(begin, end, NONE)])

    def test_what_changes_nothing_makes_no_stretch(self):
        begin, end = WEEKS[2], WEEKS[3]
        for day in (begin, begin + 3, end - 1):
            for ahead in ([("go", begin)], [("seats", begin, 1)], [("plan", FIRST, "pro"), ("plan", day, "pro")],
                          [("seats", FIRST, 5), ("seats", day, 5)], [("hold", FIRST), ("hold", day)],
                          [("stop", FIRST), ("last", begin - 7), ("stop", day)]):
                terms = terms_of(*ahead)
                self.assert_stretches(WEEKLY, terms, begin, end, [(begin, end, state_apart(WEEKLY, terms, begin))])

    def test_what_is_put_right_on_its_own_day_makes_no_stretch(self):
        day = WEEKS[2] + 3
        self.assert_stretches(WEEKLY, terms_of(("hold", day), ("go", day)), FIRST, WEEKS[60], [(FIRST, WEEKS[60], NONE)])
        terms = terms_of(("seats", day, 9), ("plan", day, "pro"), ("seats", day, 1), ("hold", day), ("stop", day))
        self.assert_stretches(WEEKLY, terms, FIRST, WEEKS[60], [
            (FIRST, day, NONE), (day, WEEKS[60], ("pro", 1, "off"))])

    def test_one_state_twice_with_another_between(self):
        day = WEEKS[2]
        terms = terms_of(("hold", day + 1), ("go", day + 3))
        self.assert_stretches(WEEKLY, terms, day, day + 7, [
            (day, day + 1, NONE), (day + 1, day + 3, (None, 1, "held")), (day + 3, day + 7, NONE)])

    def test_spans_make_no_cut(self):
        for account in ACCOUNTS:
            terms = terms_of(("plan", account[1], "pro"))
            self.assert_stretches(account, terms, account[1], end_apart(account), [
                (account[1], end_apart(account), ("pro", 1, "on"))])

    def check_days(self, account, terms, begin, end):
        told = stretches(account, terms, begin, end)
        day, ahead = begin, None
        for stretch in told:
            self.assertIs(type(stretch), tuple)
            self.assertEqual(stretch[0], day)
            self.assertLess(day, stretch[1])
            self.assertNotEqual(stretch[2], ahead)
            for day in range(stretch[0], stretch[1]):
                self.assertEqual(state_on(account, terms, day), stretch[2], (account, terms, day))
            day, ahead = stretch[1], stretch[2]
        self.assertEqual(day, end)

    def test_each_day_by_chance(self):
        chance = random.Random(15)
        for turn in range(250):
            account = chance.choice((MONTHLY, WEEKLY, DAILY, (PLANS, 17, ("days", 2)), (PLANS, 0, ("days", 3))))
            terms = terms_by_chance(chance, account, chance.randrange(21))
            k = chance.randrange(60)
            self.check_days(account, terms, begin_apart(account, k), begin_apart(account, k + 1))
            begin, end = sorted(chance.randrange(account[1], end_apart(account) + 1) for turn in range(2))
            self.check_days(account, terms, begin, min(end, begin + 50))
            self.check_days(account, terms, max(account[1], end_apart(account) - 90), end_apart(account))

    def test_whole_accounts_by_chance(self):
        chance = random.Random(51)
        for account in (WEEKLY, DAILY, MONTHLY):
            for many in (1, 5, 40):
                terms = terms_by_chance(chance, account, many)
                self.check_days(account, terms, account[1], end_apart(account))

    def test_the_list_is_a_new_one(self):
        terms = terms_of(("hold", FIRST + 1))
        told = stretches(WEEKLY, terms, FIRST, FIRST + 2)
        kept = list(told)
        self.assertIs(type(told), list)
        told.clear()
        terms.clear()
        self.assertEqual(stretches(WEEKLY, terms_of(("hold", FIRST + 1)), FIRST, FIRST + 2), kept)
        empty = stretches(WEEKLY, terms, FIRST, FIRST)
        empty.append(1)
        self.assertEqual(stretches(WEEKLY, terms, FIRST, FIRST), [])


if __name__ == "__main__":
    unittest.main()
