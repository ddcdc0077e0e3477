"""The desk (points 26, 27, and 2, 3, 6, 9, 10, 12 as far as they speak of it)."""

import inspect
import random
import unittest

from paidspan.amounts import show_amount
from paidspan.answers import in_parts
from paidspan.books import book_lines, book_sums, owed
from paidspan.charges import span_cost, span_lines
from paidspan.corrections import moved
from paidspan.cycles import span_on
from paidspan.datetexts import show_date
from paidspan.desk import Desk
from paidspan.entries import check_entries, terms_at
from paidspan.errors import NoAccount, NoAmount, NoDate, NoEntry, NoRow, NoSpan, NoText, SpanError, TooLong
from paidspan.states import state_on
from paidspan.texts import read_account

# Span 0 has 29 days, at 1.00 a day by basic; span 59 ends on 31 January 2029.
TEXT = """places 2
first 2024-01-31
every 1 months
plan basic 29.00
plan pro 90.00 per 30"""

QUESTIONS = ("state", "span", "lines", "sums")

# Rows with their answers, one behind the other.
TALK = (
    ("state 2024-01-31", "- 1 on"),
    ("span 2024-02-10", "0 2024-01-31 2024-02-29 0.00; 2024-01-31 2024-02-29 - 1 on 0.00"),
    ("lines 2024-02-29", "2024-01-31 bill 0 0.00 0.00 0.00 0.00; 2024-02-29 bill 1 0.00 0.00 0.00 0.00"),
    ("sums 2024-02-10", "0.00 0.00 0.00 0.00 0.00 0.00 0.00"),
    ("moved 2024-01-31 2024-02-10", "none"),
    ("2024-01-31 plan basic from 2024-01-31", "entry 0"),
    ("2024-01-31 grant 10.00", "entry 1"),
    ("2024-02-10 seats 2 from 2024-02-20", "entry 2"),
    ("state 2024-02-09", "basic 1 on"),
    ("state 2024-02-20", "basic 2 on"),
    ("span 2024-01-31", "0 2024-01-31 2024-02-29 29.00; 2024-01-31 2024-02-29 basic 1 on 29.00"),
    ("span 2024-02-28", "0 2024-01-31 2024-02-29 38.00; 2024-01-31 2024-02-20 basic 1 on 20.00; "
                        "2024-02-20 2024-02-29 basic 2 on 18.00"),
    ("lines 2024-02-29", "2024-01-31 grant 1 10.00 0.00 0.00 0.00; 2024-01-31 bill 0 29.00 10.00 0.00 19.00; "
                         "2024-02-10 right 0 9.00 0.00 0.00 9.00; 2024-02-29 bill 1 58.00 0.00 0.00 58.00"),
    ("sums 2024-01-31", "29.00 19.00 0.00 10.00 0.00 0.00 28.00"),
    ("sums 2024-02-28", "38.00 28.00 0.00 10.00 0.00 0.00 0.00"),
    ("sums 2024-02-29", "96.00 86.00 0.00 10.00 0.00 0.00 56.13"),
    ("2024-03-05 hold from 2024-02-05", "entry 3"),
    ("2024-03-05 go from 2024-02-29", "entry 4"),
    ("2024-03-06 back", "entry 5"),
    ("state 2024-02-05", "basic 1 on"),
    ("lines 2024-03-06", "2024-01-31 grant 1 10.00 0.00 0.00 0.00; 2024-01-31 bill 0 29.00 10.00 0.00 19.00; "
                         "2024-02-10 right 0 9.00 0.00 0.00 9.00; 2024-02-29 bill 1 58.00 0.00 0.00 58.00; "
                         "2024-03-05 right 0 -33.00 -5.00 -28.00 0.00; 2024-03-06 back -1 28.00 0.00 0.00 0.00"),
    ("sums 2024-03-05", "63.00 86.00 0.00 10.00 28.00 5.00 46.78"),
    ("sums 2024-03-06", "63.00 86.00 28.00 10.00 0.00 5.00 44.91"),
    ("moved 2024-02-29 2024-03-05", "0 38.00 5.00"),
    ("moved 2024-03-05 2024-03-05", "none"),
    ("2024-03-07 undo 2", "entry 6"),
    ("moved 2024-02-29 2024-03-07", "0 38.00 5.00; 1 58.00 29.00"),
    ("2024-03-08 last from 2024-03-08", "entry 7"),
    ("2024-04-01 stop from 2024-04-02", "entry 8"),
    ("2024-04-02 plan pro from 2024-04-03", "entry 9"),
    ("2024-04-02 hold from 2024-04-04", "entry 10"),
    ("state 2024-03-30", "basic 1 on"),
    ("state 2024-03-31", "basic 1 off"),
    ("state 2024-04-03", "pro 1 off"),
    ("state 2024-04-04", "pro 1 held"),
    ("span 2024-04-04", "2 2024-03-31 2024-04-30 0.00; 2024-03-31 2024-04-03 basic 1 off 0.00; "
                        "2024-04-03 2024-04-04 pro 1 off 0.00; 2024-04-04 2024-04-30 pro 1 held 0.00"),
    ("span 2029-01-30", "59 2028-12-31 2029-01-31 0.00; 2028-12-31 2029-01-31 pro 1 held 0.00"),
    ("sums 2024-04-01", "34.00 86.00 28.00 10.00 29.00 5.00 0.00"),
    ("sums 2029-01-30", "34.00 86.00 28.00 10.00 29.00 5.00 0.00"))


class Case(unittest.TestCase):
    def assert_refused(self, refusal, desk, row):
        with self.assertRaises(refusal, msg=repr(row)) as caught:
            desk.say(row)
        self.assertIs(type(caught.exception), refusal, repr(row))
        self.assertIsInstance(caught.exception, SpanError)
        return caught.exception

    def assert_no_entry(self, desk, row, number):
        self.assertEqual(self.assert_refused(NoEntry, desk, row).number, number, row)

    def say_all(self, desk, talk):
        for row, answer in talk:
            self.assertEqual(desk.say(row), answer, row)


class Made(Case):
    def test_arguments(self):
        self.assertEqual(str(inspect.signature(Desk)), "(text)")
        self.assertEqual(str(inspect.signature(Desk.say)), "(self, row)")

    def test_refused_as_the_text_is(self):
        for text, refusal in (("", NoText), (TEXT + "\n", NoText), (TEXT.replace("2024-01-31", "2024-01-32"), NoDate),
                              (TEXT.replace("29.00", "29"), NoAmount), (TEXT.replace("every 1", "every 0"), NoAccount),
                              (TEXT.replace("pro", "basic"), NoAccount),
                              (TEXT.replace("2024-01-31", "x").replace("per 30", "per 0"), NoText)):
            with self.assertRaises(refusal) as caught:
                Desk(text)
            self.assertIs(type(caught.exception), refusal)


class Answers(Case):
    def test_a_talk(self):
        self.say_all(Desk(TEXT), TALK)

    def test_questions_change_nothing(self):
        desk = Desk(TEXT)
        for row, answer in TALK:
            for word in QUESTIONS:
                desk.say(word + " 2024-03-06")
            self.assertEqual(desk.say(row), answer)

    def test_without_questions_between(self):
        desk = Desk(TEXT)
        self.say_all(desk, [one for one in TALK if one[1].startswith("entry")])
        # What is known at a day hangs on the days of entries, not on when the desk was told of them.
        self.say_all(desk, [one for one in TALK[8:] if not one[1].startswith("entry")])

    def test_places(self):
        for places, amount, more in ((0, "290", "10"), (1, "29.0", "1.0"), (6, "0.000290", "0.000010")):
            desk = Desk(f"places {places}\nfirst 0001-01-01\nevery 29 days\nplan a {amount}")
            nought = show_amount(0, places)
            self.say_all(desk, (
                ("0001-01-01 plan a from 0001-01-01", "entry 0"), (f"0001-01-01 grant {more}", "entry 1"),
                ("0001-01-01 seats 3 from 0001-01-29", "entry 2"),
                ("span 0001-01-01", f"0 0001-01-01 0001-01-30 {show_amount(310, places)}; 0001-01-01 0001-01-29 a 1 on "
                                    f"{show_amount(280, places)}; 0001-01-29 0001-01-30 a 3 on {show_amount(30, places)}"),
                ("lines 0001-01-01", f"0001-01-01 grant 1 {more} {nought} {nought} {nought}; "
                                     f"0001-01-01 bill 0 {show_amount(310, places)} {more} {nought} {show_amount(300, places)}"),
                ("0001-01-02 hold from 0001-01-01", "entry 3"),
                ("moved 0001-01-01 0001-01-02", f"0 {show_amount(310, places)} {nought}"),
                ("sums 0001-01-02", " ".join([nought, show_amount(300, places), nought, more, show_amount(300, places), more,
                                              nought]))))

    def test_thirty_figures(self):
        nines = "9" * 30
        desk = Desk("places 0\nfirst 2024-01-31\nevery 7 days\nplan dear " + nines)
        self.say_all(desk, (("2024-01-31 plan dear from 2024-01-31", "entry 0"),
                            ("2024-01-31 seats 1000000 from 2024-01-31", "entry 1"),
                            (f"2024-01-31 grant {nines}", "entry 2"),
                            ("span 2024-01-31", f"0 2024-01-31 2024-02-07 {nines}000000; "
                                                f"2024-01-31 2024-02-07 dear 1000000 on {nines}000000")))

    def test_plans_called_by_words_of_rows(self):
        names = ("plan", "from", "state", "undo", "back", "none", "entry", "moved")
        desk = Desk("places 2\nfirst 2024-01-31\nevery 7 days\n" + "\n".join(f"plan {name} 7.00" for name in names))
        for number, name in enumerate(names):
            day = show_date(738915 + number)
            self.say_all(desk, ((f"{day} plan {name} from {day}", f"entry {number}"), (f"state {day}", f"{name} 1 on")))
        self.assertEqual(desk.say("span 2024-02-07"), "1 2024-02-07 2024-02-14 7.00; 2024-02-07 2024-02-14 moved 1 on 7.00")

    def test_the_first_and_the_last_day(self):
        desk = Desk(TEXT)
        self.say_all(desk, (("2024-01-31 plan basic from 2029-01-30", "entry 0"), ("2029-01-30 back", "entry 1"),
                            ("state 2029-01-29", "- 1 on"), ("state 2029-01-30", "basic 1 on"),
                            ("span 2029-01-30", "59 2028-12-31 2029-01-31 0.94; 2028-12-31 2029-01-30 - 1 on 0.00; "
                                                "2029-01-30 2029-01-31 basic 1 on 0.94"),
                            ("sums 2028-12-31", "0.94 0.94 0.00 0.00 0.00 0.00 0.94"),
                            ("sums 2029-01-30", "0.94 0.94 0.00 0.00 0.00 0.00 0.00")))
        self.assertEqual(len(desk.say("lines 2029-01-30").split("; ")), 60)

    def test_none(self):
        self.assertEqual(in_parts([]), "none")
        self.assertEqual(in_parts(["a b", "c"]), "a b; c")

    def test_two_desks_have_nothing_in_common(self):
        one, other = Desk(TEXT), Desk(TEXT)
        self.say_all(one, TALK[5:])
        self.say_all(other, TALK)
        self.say_all(Desk(TEXT), TALK)
        self.assertEqual(one.say("2024-05-01 back"), "entry 11")
        self.assertEqual(other.say("2024-04-02 grant 0.01"), "entry 11")


class NoRows(Case):
    def test_other_words(self):
        desk = Desk(TEXT)
        date = "2024-01-31"
        for row in ("", " ", "  ", "   ", "    ", date, "state", "span", "lines", "sums", "moved", "back", "none", f"moved {date}",
                    f"State {date}", f"STATE {date}", f"states {date}", f"owed {date}", f"{date} state", f"state {date} {date}",
                    f"moved {date} {date} {date}", f"{date} {date}", f"{date} Back", f"{date} back {date}", f"back {date}",
                    f"{date} plan basic", f"{date} plan basic from", f"{date} plan from {date}", f"{date} plan basic to {date}",
                    f"{date} plan basic from {date} {date}", f"{date} plan basic pro from {date}", f"plan basic from {date}",
                    f"{date} seats from {date}", f"{date} seats 2", f"{date} seats 2 {date}", f"{date} seats 2 From {date}",
                    f"{date} hold", f"{date} hold {date}", f"{date} hold 2 from {date}", f"{date} held from {date}",
                    f"{date} go to {date}", f"{date} stop from", f"{date} last from {date} on", f"{date} undo", f"{date} undo 0 0",
                    f"{date} grant", f"{date} grant 1.00 {date}", f"{date} grant 1.00 from {date}", f"{date} back 1",
                    f"{date}\nback", f"state\n{date}", f"{date} back\n", f"\nstate {date}", f"{date};back"):
            self.assert_refused(NoRow, desk, row)
        self.assertEqual(desk.say(f"{date} back"), "entry 0")

    def test_blanks_too_many(self):
        desk = Desk(TEXT)
        date = "2024-01-31"
        for row in (f"state {date}", f"span {date}", f"{date} plan basic from {date}", f"{date} seats 2 from {date}",
                    f"{date} hold from {date}", f"{date} go from {date}", f"{date} stop from {date}", f"{date} last from {date}",
                    f"{date} undo 0", f"{date} grant 1.00", f"{date} back", f"moved {date} {date}"):
            for place in [0, len(row)] + [place for place, sign in enumerate(row) if sign == " "]:
                self.assert_refused(NoRow, desk, row[:place] + " " + row[place:])

    def test_numbers(self):
        desk = Desk(TEXT)
        date = "2024-01-31"
        for word in ("", "00", "01", "-1", "+1", "1.0", "x", "1234567890", "0000000001", "1" * 3000, "1\n", "N"):
            self.assert_refused(NoRow, desk, f"{date} seats {word} from {date}")
            self.assert_refused(NoRow, desk, f"{date} undo {word}")
            # Ahead of a DATE or TO that is none.
            self.assert_refused(NoRow, desk, f"never seats {word} from never")
            self.assert_refused(NoRow, desk, f"never undo {word}")
        for word in ("0", "1", "1000000"):
            desk.say(f"{date} seats {word} from {date}")

    def test_ahead_of_all_else(self):
        desk = Desk(TEXT)
        for row in ("state never back", "never hold to never", "moved never", "2023-01-01 undo 01", "never grant x y"):
            self.assert_refused(NoRow, desk, row)


class NoDatesAndAmounts(Case):
    DATES = ("", "never", "2024-1-31", "2023-02-29", "2024-02-30", "20240131", "0000-01-01", "10000-01-01",
             "2024-01-31\n", "x" * 3000)
    AMOUNTS = ("", "1", "1.0", "1.000", ".00", "01.00", "+1.00", "-0.00", "x", "9" * 59 + ".99", "9" * 3000 + ".99",
               "1.00\n")

    def test_dates(self):
        desk = Desk(TEXT)
        good = "2024-01-31"
        for date in self.DATES:
            for word in QUESTIONS:
                self.assert_refused(NoDate, desk, f"{word} {date}")
            for row in (f"moved {date} {good}", f"moved {good} {date}", f"moved {date} {date}", f"{date} back", f"{date} undo 0",
                        f"{date} grant 1.00", f"{date} plan basic from {good}", f"{good} plan basic from {date}",
                        f"{date} seats 2 from {good}", f"{good} seats 2 from {date}"):
                self.assert_refused(NoDate, desk, row)
            for word in ("hold", "go", "stop", "last"):
                self.assert_refused(NoDate, desk, f"{date} {word} from {good}")
                self.assert_refused(NoDate, desk, f"{good} {word} from {date}")
        self.assertEqual(desk.say(f"{good} back"), "entry 0")

    def test_amounts(self):
        desk = Desk(TEXT)
        for amount in self.AMOUNTS:
            self.assert_refused(NoAmount, desk, f"2024-01-31 grant {amount}")
        self.assert_refused(NoAmount, Desk(TEXT.replace("places 2", "places 0").replace(".00", "")), "2024-01-31 grant 1.00")
        self.assertEqual(desk.say("2024-01-31 grant 1.00"), "entry 0")

    def test_the_first_that_is_none(self):
        desk = Desk(TEXT)
        self.assert_refused(NoDate, desk, "never grant x")
        self.assert_refused(NoAmount, desk, "2023-01-31 grant x")
        self.assert_refused(NoDate, desk, "2023-01-31 hold from never")

    def test_ahead_of_what_is_no_entry_and_of_days_of_no_span(self):
        desk = Desk(TEXT)
        for row in ("2023-01-31 plan none from never", "never seats 999999999 from 2023-01-31", "moved 2023-01-31 never",
                    "moved never 2023-01-31", "moved 2039-01-31 never"):
            self.assert_refused(NoDate, desk, row)

    def test_what_can_be_read_as_a_question_is_one(self):
        desk = Desk(TEXT)
        for row in ("state back", "span back", "lines back", "sums back", "moved undo 0", "moved undo x", "moved grant 1.00",
                    "moved grant x", "moved 2024-01-31 back", "state state", "state "):
            self.assert_refused(NoDate, desk, row)
        # Not as many words as the question has: an entry with a DATE that is none.
        for row in ("moved back", "state undo 0", "state grant 1.00", "sums hold from 2024-01-31", " back"):
            self.assert_refused(NoDate, desk, row)
        self.assert_refused(NoRow, desk, "state undo x")


class NoEntries(Case):
    def test_entries_that_cannot_stand_there(self):
        for row in ("2024-01-30 back", "2029-01-31 back", "2024-01-31 hold from 2024-01-30",
                    "2024-01-31 hold from 2029-01-31", "2024-01-31 plan none from 2024-01-31",
                    "2024-01-31 plan Basic from 2024-01-31", "2024-01-31 plan  from 2024-01-31",
                    "2024-01-31 seats 1000001 from 2024-01-31", "2024-01-31 seats 999999999 from 2024-01-31",
                    "2024-01-31 undo 0", "2024-01-31 undo 999999999", "2024-01-31 grant 0.00", "2024-01-31 grant -1.00",
                    "2024-01-31 grant 1" + "0" * 28 + ".00", "9999-12-31 back", "0001-01-01 last from 0001-01-01"):
            desk = Desk(TEXT)
            self.assert_no_entry(desk, row, 0)
            self.assertEqual(desk.say("2024-01-31 back"), "entry 0")
            self.assert_no_entry(desk, row, 1)
            self.assert_no_entry(desk, row, 1)
            self.assertEqual(desk.say("2024-01-31 hold from 2024-01-31"), "entry 1")

    def test_none_on_a_day_ahead_of_the_one_in_front(self):
        desk = Desk(TEXT)
        self.assertEqual(desk.say("2024-02-10 back"), "entry 0")
        self.assert_no_entry(desk, "2024-02-09 back", 1)
        self.assertEqual(desk.say("2024-02-10 back"), "entry 1")
        # A refused entry of a later day holds up nothing.
        self.assert_no_entry(desk, "2024-03-10 undo 0", 2)
        self.assertEqual(desk.say("2024-02-10 back"), "entry 2")

    def test_undos(self):
        desk = Desk(TEXT)
        self.say_all(desk, (("2024-01-31 hold from 2024-02-05", "entry 0"), ("2024-01-31 grant 1.00", "entry 1"),
                            ("2024-01-31 go from 2024-02-07", "entry 2")))
        for number in (1, 3, 4, 40):
            self.assert_no_entry(desk, f"2024-01-31 undo {number}", 3)
        self.assertEqual(desk.say("2024-01-31 undo 0"), "entry 3")
        for number in (0, 1, 3, 4):
            self.assert_no_entry(desk, f"2024-01-31 undo {number}", 4)
        self.assertEqual(desk.say("2024-01-31 undo 2"), "entry 4")
        self.assert_no_entry(desk, "2024-01-31 undo 2", 5)

    def test_nothing_is_kept_of_what_is_refused(self):
        desk = Desk(TEXT)
        for row, answer in TALK:
            for refusal, other in ((NoEntry, "2024-01-30 plan basic from 2024-01-31"),
                                   (NoEntry, "2029-01-30 seats 7000000 from 2024-01-31"),
                                   (NoDate, "2029-01-30 hold from never"), (NoAmount, "2029-01-30 grant 1"),
                                   (NoRow, "2029-01-30 back again")):
                self.assert_refused(refusal, desk, other)
            self.assertEqual(desk.say(row), answer)

    def test_forty_entries(self):
        desk = Desk(TEXT)
        for number in range(40):
            self.assertEqual(desk.say(f"2024-01-31 seats {number} from 2024-01-31"), f"entry {number}")
        for row in ("2024-01-31 back", "2024-01-31 undo 0", "2024-01-30 back", "2024-01-31 grant 0.00",
                    "2029-01-31 plan x from 2024-01-31"):
            self.assert_refused(TooLong, desk, row)
        self.assert_refused(NoDate, desk, "never back")
        self.assert_refused(NoAmount, desk, "2024-01-31 grant x")
        self.assert_refused(NoRow, desk, "2024-01-31 undo x")
        self.assertEqual(desk.say("state 2024-01-31"), "- 39 on")


class NoDaysOfTheAccount(Case):
    AHEAD = ("2024-01-30", "2023-12-31", "0001-01-01")
    BEHIND = ("2029-01-31", "2029-02-01", "9999-12-31")

    def check_days(self, desk):
        for refusal, days in ((NoSpan, self.AHEAD), (TooLong, self.BEHIND)):
            for day in days:
                for word in QUESTIONS:
                    self.assert_refused(refusal, desk, f"{word} {day}")
                for other in ("2024-01-31", "2029-01-30"):
                    self.assert_refused(refusal, desk, f"moved {other} {day}")
                for other in ("2024-01-31", "2029-01-30") + self.AHEAD + self.BEHIND:
                    self.assert_refused(refusal, desk, f"moved {day} {other}")

    def test_ahead_of_any_entry_and_behind_some(self):
        desk = Desk(TEXT)
        self.check_days(desk)
        self.say_all(desk, TALK)
        self.check_days(desk)

    def test_the_first_day_behind_the_second(self):
        for talk in ((), TALK):
            desk = Desk(TEXT)
            self.say_all(desk, talk)
            for one, other in (("2024-02-01", "2024-01-31"), ("2029-01-30", "2024-01-31"), ("2029-01-30", "2029-01-29")):
                self.assert_refused(NoSpan, desk, f"moved {one} {other}")


def written_apart(places, parts):
    """Parts of texts, numbers and (amount,) tuples as one text."""
    return "; ".join(" ".join(show_amount(value[0], places) if isinstance(value, tuple) else str(value) for value in part)
                     for part in parts) or "none"


def state_apart(state):
    return ["-" if state[0] is None else state[0], state[1], state[2]]


class ByChance(Case):
    def entry_row(self, chance, number, day, places):
        """A row by chance, with its entry."""
        own_day = max(738915, day + chance.choice((-40, -9, -1, 0, 0, 1, 9, 40)))
        word = chance.choice(("plan", "plan", "seats", "hold", "go", "go", "stop", "last", "undo", "grant", "back"))
        if word in ("plan", "seats"):
            value = chance.choice(("basic", "pro")) if word == "plan" else chance.choice((0, 1, 2, 7))
            return f"{show_date(day)} {word} {value} from {show_date(own_day)}", (day, (word, own_day, value))
        if word in ("undo", "grant"):
            value = chance.randrange(number + 1) if word == "undo" else chance.randint(1, 5000)
            written = show_amount(value, places) if word == "grant" else value
            return f"{show_date(day)} {word} {written}", (day, (word, value))
        if word == "back":
            return f"{show_date(day)} back", (day, ("back",))
        return f"{show_date(day)} {word} from {show_date(own_day)}", (day, (word, own_day))

    def check_answers(self, desk, places, account, entries, day, other):
        terms, date = terms_at(entries, day), show_date(day)
        self.assertEqual(desk.say(f"state {date}"), written_apart(places, [state_apart(state_on(account, terms, day))]))
        k, begin, end = span_on(account[1], account[2], day)
        parts = [[k, show_date(begin), show_date(end), (span_cost(account, terms, k),)]]
        for begin, end, state, cost in span_lines(account, terms, k):
            parts.append([show_date(begin), show_date(end)] + state_apart(state) + [(cost,)])
        self.assertEqual(desk.say(f"span {date}"), written_apart(places, parts))
        lines = book_lines(account, entries, day)
        parts = [[show_date(line[0]), line[1], line[2]] + [(amount,) for amount in line[3:]] for line in lines]
        self.assertEqual(desk.say(f"lines {date}"), written_apart(places, parts))
        sums = book_sums(account, entries, day) + (owed(account, entries, day),)
        self.assertEqual(desk.say(f"sums {date}"), written_apart(places, [[(amount,) for amount in sums]]))
        parts = [[k, (before,), (behind,)] for k, before, behind in moved(account, entries, day, other)]
        self.assertEqual(desk.say(f"moved {date} {show_date(other)}"), written_apart(places, parts))

    def test_as_the_other_modules_tell(self):
        chance = random.Random(26)
        for turn in range(15):
            text = chance.choice((TEXT, TEXT.replace("every 1 months", "every 5 days")))
            places, account = read_account(text)
            desk = Desk(text)
            entries, day = [], 738915
            for step in range(25):
                day += chance.choice((0, 0, 1, 2, 6))
                row, entry = self.entry_row(chance, len(entries), day, places)
                try:
                    check_entries(account, entries + [entry])
                except NoEntry:
                    self.assert_no_entry(desk, row, len(entries))
                else:
                    self.assertEqual(desk.say(row), f"entry {len(entries)}")
                    entries.append(entry)
                one, other = sorted((738915 + chance.randrange(200), 738915 + chance.randrange(200)))
                self.check_answers(desk, places, account, entries, one, other)


if __name__ == "__main__":
    unittest.main()
