"""The desk: it is told rows, keeps the entries of an account, and answers questions."""

from paidspan.answers import tell_lines, tell_moved, tell_span, tell_state, tell_sums
from paidspan.entries import check_entries
from paidspan.rows import ENTRIES, entry_of, read_row
from paidspan.texts import read_account


class Desk:
    """The desk of one account, made of its text."""

    def __init__(self, text):
        places, account = read_account(text)
        self.places = places
        self.account = account
        self.entries = []

    def say(self, row):
        """The answer to a row; where it is refused nothing is kept of it."""
        form, values = read_row(row, self.places)
        if form in ENTRIES:
            return self.enter(entry_of(values))
        return self.tell(values[0], values[1:])

    def enter(self, entry):
        """Put an entry behind those that are kept; TooLong or NoEntry where it can't stand there."""
        entries = self.entries + [entry]
        check_entries(self.account, entries)
        number = len(self.entries)
        self.entries = entries
        return f"entry {number}"

    def tell(self, word, days):
        """The answer to the question of this word; NoSpan or TooLong by its days."""
        if word == "state":
            return tell_state(self.account, self.entries, days[0])
        if word == "span":
            return tell_span(self.account, self.entries, self.places, days[0])
        if word == "lines":
            return tell_lines(self.account, self.entries, self.places, days[0])
        if word == "sums":
            return tell_sums(self.account, self.entries, self.places, days[0])
        return tell_moved(self.account, self.entries, self.places, days[0], days[1])
