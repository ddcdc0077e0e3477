"""What is promised over the whole program, day by day and line by line (point 4, with 2, 13 and 16 to 24)."""

import copy
import random
import unittest

from paidspan.books import book_lines, book_sums, owed
from paidspan.charges import day_cost, earned, span_cost, span_lines
from paidspan.corrections import in_time, moved
from paidspan.cycles import begin_of, span_on
from paidspan.entries import check_entries, terms_at
from paidspan.states import counts_from, state_on, stretches

THIRTY_FIGURES = 10 ** 30 - 1
PLANS = [("whole", 1000, 0), ("few", 1000, 3), ("more", 997, 40), ("one", 100, 1), ("free", 0, 0),
         ("dear", THIRTY_FIGURES, 7)]
NAMES = [plan[0] for plan in PLANS]
# 31 January 2024.
FIRST = 738915
WEEKLY = (PLANS, FIRST, ("days", 7))
MONTHLY = (PLANS, FIRST, ("months", 1))
DAILY = (PLANS, 0, ("days", 1))
THREE = (PLANS, 3500000, ("days", 3))
ACCOUNTS = (WEEKLY, MONTHLY, DAILY, THREE)


def end_of(account):
    return begin_of(account[1], account[2], 60)


def entries_by_chance(chance, account, many, days):
    """Entries of the first so many days, whose days often meet one another, with undos of terms that stand."""
    first = account[1]
    entries, standing, entered = [(first, ("plan", first, "whole"))], [0], first
    for number in range(1, many):
        entered = min(entered + chance.choice((0, 0, 0, 1, 1, 2, 5)), first + days - 1)
        own_day = first + min(days - 1, max(0, entered - first + chance.choice((-20, -9, -3, -1, 0, 0, 1, 3, 9))))
        changes = [("plan", own_day, chance.choice(NAMES)), ("plan", own_day, chance.choice(NAMES)),
                   ("seats", own_day, chance.choice((0, 1, 2, 3, 1000000))), ("hold", own_day), ("go", own_day),
                   ("go", own_day), ("stop", own_day), ("last", own_day)]
        change = chance.choice(changes + [("grant", chance.choice((1, 30, 500, 5000)))] * 2 + [("back",)] * 2)
        if standing and chance.randrange(4) == 0:
            change = ("undo", standing.pop(chance.randrange(len(standing))))
        elif change in changes:
            standing.append(number)
        entries.append((entered, change))
    return entries


def books_by_chance(seed, many):
    """Accounts with entries, and how many days they are looked at."""
    chance = random.Random(seed)
    for turn in range(many):
        account = chance.choice(ACCOUNTS)
        days = {"months": 75, "days": 40}[account[2][0]]
        yield account, entries_by_chance(chance, account, chance.choice((4, 10, 20, 40)), days), days


class EachDay(unittest.TestCase):
    def test_it_is_charged_by_the_one_state_that_is_in_force(self):
        for account, entries, days in books_by_chance(1, 15):
            for moment in (account[1], account[1] + days // 2, account[1] + days - 1):
                terms = terms_at(entries, moment)
                for k in range(6):
                    begin, end = begin_of(account[1], account[2], k), begin_of(account[1], account[2], k + 1)
                    lines = span_lines(account, terms, k)
                    self.assertEqual([line[:3] for line in lines], stretches(account, terms, begin, end))
                    self.assertEqual(sum(line[3] for line in lines), span_cost(account, terms, k))
                    costs = [day_cost(account, terms, day) for day in range(begin, end)]
                    self.assertEqual(sum(costs), span_cost(account, terms, k))
                    for opened, closed, state, cost in lines:
                        self.assertEqual(cost, sum(costs[opened - begin:closed - begin]))
                        self.assertEqual({state_on(account, terms, day) for day in range(opened, closed)}, {state})


class EachLine(unittest.TestCase):
    def test_what_was_handed_in_stays_as_it_is(self):
        for account, entries, days in books_by_chance(2, 10):
            kept = copy.deepcopy((account, entries))
            day = account[1] + days - 1
            self.assertIsNone(check_entries(account, entries))
            for told in (book_lines(account, entries, day), in_time(entries), moved(account, entries, account[1], day)):
                told.append(None)
            book_sums(account, entries, day)
            owed(account, entries, day)
            self.assertEqual((account, entries), kept)

    def test_at_the_end_of_each_day_the_lines_of_a_span_come_to_what_it_costs(self):
        for account, entries, days in books_by_chance(3, 25):
            for day in range(account[1], account[1] + days):
                terms = terms_at(entries, day)
                lines = book_lines(account, entries, day)
                begun = span_on(account[1], account[2], day)[0] + 1
                for k in range(begun):
                    own = [line for line in lines if line[1] in ("bill", "right") and line[2] == k]
                    self.assertEqual(sum(line[3] for line in own), span_cost(account, terms, k))
                    self.assertEqual([line[:2] for line in own if line[1] == "bill"],
                                     [(begin_of(account[1], account[2], k), "bill")])
                    self.assertEqual(own[0][1], "bill")
                    at_days = [line[0] for line in own]
                    self.assertEqual(at_days, sorted(set(at_days)))
                self.assertFalse([line for line in lines if line[1] in ("bill", "right") and line[2] >= begun])

    def test_the_order_of_the_lines_of_a_day(self):
        for account, entries, days in books_by_chance(4, 25):
            lines = book_lines(account, entries, account[1] + days - 1)
            order = []
            for line in lines:
                place = {"grant": 0, "right": 1 if line[3] < 0 else 2, "bill": 3, "back": 4}[line[1]]
                order.append((line[0], place, line[2]))
                self.assertTrue(line[3] != 0 or line[1] == "bill")
                if line[1] in ("grant", "back"):
                    self.assertEqual((line[3] > 0, line[4:]), (True, (0, 0, 0)))
                elif line[3] < 0:
                    self.assertEqual((sum(line[4:]), max(line[4:]), line[6]), (line[3], 0, 0))
                else:
                    self.assertEqual((sum(line[4:]), min(line[4:]) >= 0), (line[3], True))
            self.assertEqual(order, sorted(set(order)))

    def test_lines_of_earlier_days_stay(self):
        for account, entries, days in books_by_chance(5, 15):
            behind = book_lines(account, entries, account[1] + days - 1)
            for day in range(account[1], account[1] + days):
                self.assertEqual(book_lines(account, entries, day), [line for line in behind if line[0] <= day])

    def test_no_part_of_a_credit_is_in_two_places(self):
        for account, entries, days in books_by_chance(6, 25):
            own = given = paid = back = granted = 0
            took = {}
            lines = book_lines(account, entries, account[1] + days - 1)
            for place, line in enumerate(lines):
                day, kind, number, amount = line[:4]
                if kind == "grant":
                    granted, given = granted + amount, given + amount
                    self.assertEqual(entries[number], (day, ("grant", amount)))
                elif kind == "back":
                    # All that lies in own, where a back was entered.
                    self.assertEqual((number, amount), (-1, own))
                    self.assertIn((day, ("back",)), entries)
                    back, own = back + amount, 0
                else:
                    one = took.setdefault(number, [0, 0])
                    if amount < 0:
                        # Money first, as far as the span took any.
                        self.assertEqual(-line[5], min(-amount, one[1]))
                    else:
                        # Given first, then own, as far as there is any.
                        self.assertEqual(line[4:6], (min(amount, given), min(amount - min(amount, given), own)))
                    one[0], one[1] = one[0] + line[4], one[1] + line[5] + line[6]
                    given, own, paid = given - line[4], own - line[5], paid + line[6]
                self.assertGreaterEqual(min([own, given, paid - back] + [min(one) for one in took.values()]), 0)
                self.assertEqual(paid - back, own + sum(one[1] for one in took.values()))
                self.assertEqual(granted, given + sum(one[0] for one in took.values()))
                if place + 1 == len(lines) or lines[place + 1][0] > day:
                    billed = sum(sum(one) for one in took.values())
                    self.assertEqual(book_sums(account, entries, day), (billed, paid, back, granted, own, given))

    def test_own_credit_is_paid_back_on_each_day_on_which_this_is_entered(self):
        for account, entries, days in books_by_chance(7, 25):
            for day in [entered for entered, change in entries if change == ("back",)]:
                self.assertEqual(book_sums(account, entries, day)[4], 0)

    def test_what_is_billed_is_earned_or_owed(self):
        for account, entries, days in books_by_chance(8, 20):
            for day in list(range(account[1], account[1] + days)) + [end_of(account) - 1]:
                terms = terms_at(entries, day)
                billed, paid, back, granted, own, given = book_sums(account, entries, day)
                self.assertEqual(billed, earned(account, terms, day + 1) + owed(account, entries, day))
                self.assertEqual(billed + own + given, paid - back + granted)
                end = span_on(account[1], account[2], day)[2]
                self.assertEqual(owed(account, entries, day),
                                 sum(day_cost(account, terms, later) for later in range(day + 1, end)))

    def test_what_moved_is_what_is_put_right(self):
        for account, entries, days in books_by_chance(9, 25):
            for day in range(account[1] + 1, account[1] + days):
                rights = [line for line in book_lines(account, entries, day) if line[0] == day and line[1] == "right"]
                self.assertEqual([(k, behind - before) for k, before, behind in moved(account, entries, day - 1, day)],
                                 sorted((line[2], line[3]) for line in rights))


def put_in(entries, place, pair):
    """The entries with two more put in at a place: undos of those behind it have other numbers."""
    behind = []
    for entered, change in entries[place:]:
        if change[0] == "undo" and change[1] >= place:
            change = ("undo", change[1] + 2)
        behind.append((entered, change))
    return entries[:place] + pair + behind


def without_numbers_of_grants(lines):
    return [(line[0], "grant") + line[3:] if line[1] == "grant" else line for line in lines]


def term_by_chance(chance, day):
    return chance.choice((("plan", day, chance.choice(NAMES)), ("seats", day, chance.choice((0, 2, 5))), ("hold", day),
                          ("go", day), ("stop", day), ("last", day)))


class NoLineComesOfIt(unittest.TestCase):
    def check_same(self, account, one, other, days):
        self.assertIsNone(check_entries(account, one))
        self.assertIsNone(check_entries(account, other))
        for day in (account[1] + days - 1, end_of(account) - 1):
            self.assertEqual(without_numbers_of_grants(book_lines(account, one, day)),
                             without_numbers_of_grants(book_lines(account, other, day)))
            self.assertEqual(book_sums(account, one, day), book_sums(account, other, day))
            self.assertEqual(owed(account, one, day), owed(account, other, day))

    def test_a_term_that_is_undone_on_the_day_on_which_it_is_entered(self):
        chance = random.Random(10)
        for account, entries, days in books_by_chance(10, 60):
            entries = entries[:38]
            place = chance.randrange(len(entries) + 1)
            entered = entries[place - 1][0] if place > 0 else account[1]
            term = term_by_chance(chance, account[1] + chance.randrange(days))
            self.check_same(account, entries, put_in(entries, place, [(entered, term), (entered, ("undo", place))]), days)

    def test_two_terms_of_one_day_by_which_all_states_are_as_they_were(self):
        chance = random.Random(11)
        words = {"on": "go", "held": "hold", "off": "stop"}
        for account, entries, days in books_by_chance(11, 60):
            entries = entries[:chance.randint(1, 38)]
            entered = entries[-1][0] + chance.choice((0, 0, 1))
            own_day = account[1] + chance.randrange(days)
            name, seats, word = state_on(account, terms_at(entries, entered), own_day)
            pairs = [[("seats", own_day, 9), ("seats", own_day, seats)], [("hold", own_day), (words[word], own_day)],
                     [("stop", own_day), (words[word], own_day)]]
            if name is not None:
                pairs.append([("plan", own_day, "dear"), ("plan", own_day, name)])
            for pair in pairs:
                self.check_same(account, entries, entries + [(entered, change) for change in pair], days)


def sort_of(change):
    return change[0] if change[0] in ("plan", "seats") else "word"


class WheneverEntered(unittest.TestCase):
    def terms_of(self, chance, account, days):
        """Terms of which no two of one sort count from one day and have one own day."""
        kept = {}
        for number in range(15):
            change = term_by_chance(chance, account[1] + chance.randrange(days))
            kept[(sort_of(change), counts_from(account, change), change[1])] = change
        return list(kept.values())

    def check_same(self, account, lists, days):
        """Behind all entries: what spans cost, what was earned, what is billed, owed and, in the end, paid."""
        told = []
        for entries in lists:
            self.assertIsNone(check_entries(account, entries))
            day = account[1] + days
            terms = terms_at(entries, day)
            sums = book_sums(account, entries, day)
            self.assertEqual(sums[1] - sums[2] - sums[4], sums[0])
            told.append(([span_cost(account, terms, k) for k in range(60)], earned(account, terms, day), sums[0],
                         owed(account, entries, day)))
        self.assertEqual(told, [told[0]] * len(told))

    def test_late_early_or_in_their_time(self):
        chance = random.Random(12)
        for turn in range(60):
            account, days = chance.choice(ACCOUNTS), 40
            changes = self.terms_of(chance, account, days)
            first = account[1]
            early = [(first, change) for change in changes]
            late = [(first + days, change) for change in reversed(changes)]
            entered = sorted(first + chance.randrange(days) for change in changes)
            chance.shuffle(changes)
            mixed = list(zip(entered, changes))
            self.check_same(account, [early, late, mixed, in_time(early), in_time(late), in_time(mixed)], days)

    def test_with_undos_grants_and_backs(self):
        for account, entries, days in books_by_chance(13, 40):
            day = account[1] + days
            one, other = book_sums(account, entries, day), book_sums(account, in_time(entries), day)
            self.assertEqual(one[0], other[0])
            self.assertEqual(one[3], other[3])
            self.assertEqual(owed(account, entries, day), owed(account, in_time(entries), day))


if __name__ == "__main__":
    unittest.main()
