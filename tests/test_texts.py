"""Accounts with places, written as texts and read so (point 25, and 2, 3, 6, 9, 11 as far as they speak of it)."""

import copy
import datetime
import inspect
import random
import unittest

from paidspan.errors import NoAccount, NoAmount, NoDate, NoText, SpanError
from paidspan.texts import read_account, show_account

THIRTY_FIGURES = 10 ** 30 - 1
# 29 February 2024.
DAY = 738944
LETTERS = "abcdefghijklmnopqrstuvwxyz"

TEXT = """places 2
first 2024-02-29
every 1 months
plan basic 12.50
plan pro 29.00 per 30"""
ACCOUNT = ([("basic", 1250, 0), ("pro", 2900, 30)], DAY, ("months", 1))


def text_of(places="places 2", first="first 2024-02-29", every="every 1 months", plans=("plan basic 12.50",)):
    return "\n".join([places, first, every] + list(plans))


class Case(unittest.TestCase):
    def assert_text(self, places, account, text):
        """Written so, and read again as it was."""
        kept = copy.deepcopy(account)
        self.assertEqual(show_account(places, account), text)
        self.assertEqual(account, kept)
        told = read_account(text)
        self.assertEqual(told, (places, account))
        self.assertIs(type(told), tuple)
        self.assertIs(type(told[0]), int)
        self.assertEqual([type(value) for value in told[1]], [list, int, tuple])

    def assert_refused(self, refusal, text):
        with self.assertRaises(refusal, msg=repr(text)) as caught:
            read_account(text)
        self.assertIs(type(caught.exception), refusal, repr(text))
        self.assertIsInstance(caught.exception, SpanError)


class Arguments(unittest.TestCase):
    def test_arguments(self):
        self.assertEqual(str(inspect.signature(show_account)), "(places, account)")
        self.assertEqual(str(inspect.signature(read_account)), "(text)")


class Written(Case):
    def test_a_known_text(self):
        self.assert_text(2, ACCOUNT, TEXT)

    def test_days_and_months(self):
        for cycle, line in ((("days", 1), "every 1 days"), (("days", 30), "every 30 days"),
                            (("days", 400), "every 400 days"), (("months", 1), "every 1 months"),
                            (("months", 12), "every 12 months")):
            self.assert_text(2, (ACCOUNT[0][:1], DAY, cycle), text_of(every=line))

    def test_first_days(self):
        for day in (0, 1, DAY, 3499999, 3500000):
            line = "first " + datetime.date.fromordinal(day + 1).isoformat()
            self.assert_text(2, (ACCOUNT[0][:1], day, ("months", 1)), text_of(first=line))
        self.assertIn("first 0001-01-01\n", show_account(2, (ACCOUNT[0], 0, ("days", 7))))

    def test_one_plan_to_eight(self):
        plans = [(LETTERS[place:place + place + 1], place, place) for place in range(8)]
        lines = ["plan a 0", "plan bc 1 per 1", "plan cde 2 per 2", "plan defg 3 per 3", "plan efghi 4 per 4",
                 "plan fghijk 5 per 5", "plan ghijklm 6 per 6", "plan hijklmno 7 per 7"]
        for many in range(1, 9):
            self.assert_text(0, (plans[:many], DAY, ("months", 1)), text_of("places 0", plans=lines[:many]))

    def test_counts(self):
        for count, ending in ((0, ""), (1, " per 1"), (30, " per 30"), (365, " per 365"), (400, " per 400")):
            self.assert_text(2, ([("pro", 2900, count)], DAY, ("months", 1)), text_of(plans=["plan pro 29.00" + ending]))

    def test_places_and_prices(self):
        for places, prices in ((0, ("0", "1", "1250", "9" * 30)), (1, ("0.0", "0.1", "125.0", "9" * 29 + ".9")),
                               (2, ("0.00", "0.01", "12.50", "9" * 28 + ".99")),
                               (6, ("0.000000", "0.000001", "0.001250", "9" * 24 + ".999999"))):
            for price, written in zip((0, 1, 1250, THIRTY_FIGURES), prices):
                self.assert_text(places, ([("a", price, 0), ("b", price, 7)], DAY, ("months", 1)),
                                 text_of(f"places {places}", plans=[f"plan a {written}", f"plan b {written} per 7"]))

    def test_plans_called_by_words_of_the_text(self):
        names = ("plan", "per", "days", "months", "first", "every", "places")
        account = ([(name, 5, 7) for name in names] + [("none", 5, 0)], DAY, ("months", 1))
        lines = [f"plan {name} 0.05 per 7" for name in names] + ["plan none 0.05"]
        self.assert_text(2, account, text_of(plans=lines))
        self.assert_text(2, ([("per", 5, 0)], DAY, ("months", 1)), text_of(plans=["plan per 0.05"]))

    def test_what_is_read_is_the_askers_own(self):
        one, other = read_account(TEXT), read_account(TEXT)
        one[1][0].clear()
        self.assertEqual(other, (2, ACCOUNT))
        self.assertEqual(read_account(TEXT), (2, ACCOUNT))

    def test_by_chance(self):
        chance = random.Random(25)
        for turn in range(300):
            names = [a + b + "x" * chance.randrange(7) for a in LETTERS for b in LETTERS]
            names = chance.sample(names, chance.randint(1, 8))
            plans = [(name, chance.randrange(10 ** chance.randint(1, 30)), chance.choice((0, chance.randint(0, 400))))
                     for name in names]
            cycle = chance.choice((("days", chance.randint(1, 400)), ("months", chance.randint(1, 12))))
            account = (plans, chance.randint(0, 3500000), cycle)
            places = chance.randint(0, 6)
            self.assertEqual(read_account(show_account(places, account)), (places, account))


class NotWrittenSo(Case):
    def test_lines_too_few(self):
        lines = TEXT.split("\n")
        for many in range(4):
            self.assert_refused(NoText, "\n".join(lines[:many]))
        for place in range(3):
            self.assert_refused(NoText, "\n".join(lines[:place] + lines[place + 1:]))

    def test_lines_too_many_or_in_another_order(self):
        lines = TEXT.split("\n")
        for place in range(3):
            self.assert_refused(NoText, "\n".join(lines[:place + 1] + lines[place:]))
            self.assert_refused(NoText, "\n".join(lines[:place] + [lines[place + 1], lines[place]] + lines[place + 2:]))
            self.assert_refused(NoText, "\n".join(lines + [lines[place]]))
        for place in range(6):
            for line in ("", " ", "note", "plan", "per 30"):
                self.assert_refused(NoText, "\n".join(lines[:place] + [line] + lines[place:]))

    def test_line_ends_at_the_end_and_at_the_begin(self):
        for text in (TEXT + "\n", TEXT + "\n\n", "\n" + TEXT, TEXT + "\n ", TEXT.replace("\n", "\n\n"), "\n", "\n\n\n",
                     "\n\n\n\n"):
            self.assert_refused(NoText, text)

    def test_blanks_too_many_or_missing(self):
        lines = TEXT.split("\n")
        for place, line in enumerate(lines):
            broken = [" " + line, line + " ", line.replace(" ", "")]
            signs = [number for number, sign in enumerate(line) if sign == " "]
            broken += [line[:number] + " " + line[number:] for number in signs]
            broken += [line[:number] + line[number + 1:] for number in signs]
            for other in broken:
                self.assert_refused(NoText, "\n".join(lines[:place] + [other] + lines[place + 1:]))

    def test_words_without_signs(self):
        for text in (text_of(first="first "), text_of(plans=["plan  12.50"]), text_of(plans=["plan basic "]),
                     text_of(plans=["plan  12.50 per 30"]), text_of(plans=["plan basic  per 30"]),
                     text_of(plans=["plan basic 12.50", "plan  "]), text_of("places "), text_of(every="every  days")):
            self.assert_refused(NoText, text)

    def test_other_words(self):
        lines = TEXT.split("\n")
        for place, line in enumerate(lines):
            word, rest = line.split(" ", 1)
            for other in (word.upper(), word.capitalize(), word + "s", word[:-1], ""):
                self.assert_refused(NoText, "\n".join(lines[:place] + [other + " " + rest] + lines[place + 1:]))
            for other in (line + " more", word, line + " per 30 per 30"):
                self.assert_refused(NoText, "\n".join(lines[:place] + [other] + lines[place + 1:]))

    def test_places(self):
        for word in ("7", "8", "9", "00", "02", "10", "22", "-1", "-0", "+2", "2.0", "two", "P", "", " ", "123456789",
                     "2" * 3000):
            self.assert_refused(NoText, text_of(f"places {word}", plans=["plan basic 1250"]))
            self.assert_refused(NoText, text_of(f"places {word}"))
        for places, price in enumerate(("12", "1.2", "0.12", "0.012", "0.0012", "0.00012", "0.000012")):
            self.assertEqual(read_account(text_of(f"places {places}", plans=[f"plan basic {price}"])),
                             (places, ([("basic", 12, 0)], DAY, ("months", 1))))

    def test_cycles(self):
        for many in ("00", "01", "030", "-1", "+1", "1.0", "one", "N", "", "1234567890", "0000000001", "1" * 3000):
            for word in ("days", "months"):
                self.assert_refused(NoText, text_of(every=f"every {many} {word}"))
        for word in ("day", "month", "weeks", "Days", "DAYS", "days,", "years"):
            self.assert_refused(NoText, text_of(every=f"every 1 {word}"))
        for line in ("every days", "every 1", "every", "every days 1", "every 1 days months", "1 days", "every 1 1 days"):
            self.assert_refused(NoText, text_of(every=line))

    def test_counts(self):
        for many in ("0", "00", "01", "030", "-1", "+1", "1.0", "one", "N", "", "1234567890", "1" * 3000):
            self.assert_refused(NoText, text_of(plans=[f"plan basic 12.50 per {many}"]))
        for line in ("plan basic 12.50 per", "plan basic 12.50 30", "plan basic 12.50 for 30", "plan basic 12.50 Per 30",
                     "plan basic", "plan 12.50 per 30", "plan basic per 30 12.50", "plan basic 12.50 per 30 30"):
            self.assert_refused(NoText, text_of(plans=[line]))

    def test_no_plan(self):
        self.assert_refused(NoText, text_of(plans=()))
        self.assert_refused(NoText, text_of(plans=("",)))

    def test_no_text_at_all(self):
        for text in ("", " ", "\n", "places", "places 2", TEXT.replace("\n", " "), TEXT.replace("\n", "; "), TEXT.upper()):
            self.assert_refused(NoText, text)

    def test_the_last_of_many_lines(self):
        plans = ["plan basic 12.50"] * 100
        self.assert_refused(NoText, text_of(plans=plans + ["plan basic 12.50 per 0"]))
        self.assert_refused(NoAccount, text_of(plans=plans))


class NoDateOrPrice(Case):
    def test_dates(self):
        for word in ("2023-02-29", "2024-2-29", "2024-02-30", "0000-01-01", "20240229", "DATE", "-", "2024-02-29-",
                     "29.02.2024", "10000-01-01", "2024-13-01", "x" * 3000):
            self.assert_refused(NoDate, text_of(first="first " + word))

    def test_prices(self):
        for word in ("12", "12.5", "12.500", ".50", "012.50", "12.50.", "+12.50", "-0.00", "PRICE", "-", "12,50", "1_2.50",
                     "9" * 59 + ".99", "9" * 3000 + ".99"):
            self.assert_refused(NoAmount, text_of(plans=["plan basic " + word]))
            self.assert_refused(NoAmount, text_of(plans=["plan basic 12.50", "plan pro " + word + " per 30"]))
        for places, words in ((0, ("0.0", "0.", "00", "1.00")), (6, ("0", "0.00", "0.00000", "0.0000000"))):
            for word in words:
                self.assert_refused(NoAmount, text_of(f"places {places}", plans=["plan basic " + word]))

    def test_the_first_of_several(self):
        self.assert_refused(NoDate, text_of(first="first never", plans=["plan basic 12"]))
        self.assert_refused(NoDate, text_of(first="first 2023-02-29", plans=["plan basic 12.50", "plan pro x per 30"]))
        self.assert_refused(NoAmount, text_of(plans=["plan basic 12.50", "plan pro x", "plan basic y"]))

    def test_what_is_not_written_so_goes_ahead(self):
        self.assert_refused(NoText, text_of(first="first never", plans=["plan basic 12.50 per 0"]))
        self.assert_refused(NoText, text_of(first="first 2023-02-29", every="every 01 days"))
        self.assert_refused(NoText, text_of(first="first never", plans=()))
        self.assert_refused(NoText, text_of(plans=["plan basic 12", "plan"]))
        self.assert_refused(NoText, text_of(first="first never") + "\n")

    def test_they_go_ahead_of_what_is_no_account(self):
        self.assert_refused(NoDate, text_of(first="first never", every="every 0 days"))
        self.assert_refused(NoAmount, text_of(every="every 13 months", plans=["plan basic 12"]))
        self.assert_refused(NoAmount, text_of(plans=["plan Basic 12"]))
        self.assert_refused(NoAmount, text_of(plans=["plan basic 12.50", "plan basic 12.50", "plan pro 12"]))
        self.assert_refused(NoAmount, text_of(first="first 9999-12-31", plans=["plan basic 12.50", "plan pro -12"]))


class NoSuchAccount(Case):
    def test_cycles(self):
        for line in ("every 0 days", "every 401 days", "every 0 months", "every 13 months", "every 123456789 days",
                     "every 999999999 months"):
            self.assert_refused(NoAccount, text_of(every=line))

    def test_first_days(self):
        self.assertEqual(datetime.date.fromordinal(3500000 + 1).isoformat(), "9583-09-05")
        self.assertEqual(read_account(text_of(first="first 9583-09-05"))[1][1], 3500000)
        for word in ("9583-09-06", "9999-12-31"):
            self.assert_refused(NoAccount, text_of(first="first " + word))

    def test_names(self):
        for name in ("Basic", "BASIC", "basic1", "a-b", "nineabcde", "-", "0", "~", "!", "x" * 1000):
            self.assert_refused(NoAccount, text_of(plans=[f"plan {name} 12.50"]))
            self.assert_refused(NoAccount, text_of(plans=["plan basic 12.50", f"plan {name} 12.50 per 30"]))

    def test_two_plans_of_one_name(self):
        self.assert_refused(NoAccount, text_of(plans=["plan basic 12.50", "plan pro 1.00", "plan basic 29.00 per 30"]))

    def test_nine_plans(self):
        self.assert_refused(NoAccount, text_of(plans=[f"plan {sign} 12.50" for sign in "abcdefghi"]))
        self.assertEqual(len(read_account(text_of(plans=[f"plan {sign} 12.50" for sign in "abcdefgh"]))[1][0]), 8)

    def test_prices(self):
        for price in ("-0.01", "-12.50", "1" + "0" * 28 + ".00", "9" * 58 + ".99"):
            self.assert_refused(NoAccount, text_of(plans=[f"plan basic {price}"]))

    def test_counts(self):
        for many in ("401", "1000", "999999999"):
            self.assert_refused(NoAccount, text_of(plans=[f"plan basic 12.50 per {many}"]))


if __name__ == "__main__":
    unittest.main()
