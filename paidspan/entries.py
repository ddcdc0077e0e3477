"""Entries of an account: which can stand in its list, and which terms are known at a moment."""

from paidspan.accountdays import is_day_of
from paidspan.errors import NoEntry, TooLong
from paidspan.wholes import is_whole, is_whole_between

MOST_ENTRIES = 40
MOST_SEATS = 1000000
TERMS = ("plan", "seats", "hold", "go", "stop", "last")


def is_term(change):
    """Tell whether a change, by its word, is a term."""
    return change[0] in TERMS


def names_of(account):
    """The names of the account's plans."""
    return [plan[0] for plan in account[0]]


def fits_term(account, change):
    """Tell whether a change with the word of a term is one of the account."""
    if len(change) < 2 or not is_day_of(account, change[1]):
        return False
    word = change[0]
    if word == "plan":
        return len(change) == 3 and change[2] in names_of(account)
    if word == "seats":
        return len(change) == 3 and is_whole_between(change[2], 0, MOST_SEATS)
    return len(change) == 2


def fits_grant(change):
    """Tell whether a change with the word grant has an amount of at most thirty figures."""
    return len(change) == 2 and is_whole_between(change[1], 1, 10 ** 30 - 1)


def fits_undo(change, standing):
    """Tell whether a change with the word undo has the number of a term that still stands."""
    return len(change) == 2 and is_whole(change[1]) and change[1] in standing


def fits(account, ahead, change):
    """Tell whether a change can stand behind the entries ahead of it."""
    if len(change) == 0:
        return False
    word = change[0]
    if is_term(change):
        return fits_term(account, change)
    if word == "grant":
        return fits_grant(change)
    if word == "undo":
        return fits_undo(change, standing_terms(ahead))
    return change == ("back",)


def standing_terms(entries):
    """The terms that no undo among these entries undid, as a dict of their changes by their numbers, rising."""
    standing = {}
    for number, entry in enumerate(entries):
        change = entry[1]
        if is_term(change):
            standing[number] = change
        if change[0] == "undo":
            standing.pop(change[1])
    return standing


def check_entries(account, entries):
    """TooLong where a list has too many entries; then NoEntry for the first that can't stand where it does."""
    if len(entries) > MOST_ENTRIES:
        raise TooLong("an account has at most forty entries")
    front = account[1]
    for number, entry in enumerate(entries):
        entered, change = entry
        if not is_day_of(account, entered) or entered < front:
            raise NoEntry(number)
        if not fits(account, entries[:number], change):
            raise NoEntry(number)
        front = entered


def terms_at(entries, moment):
    """The terms that are known at a moment, as a new list of (number, change), rising."""
    # An undo never stands ahead of its term: so of each undo that is known the term is known, too.
    known = [entry for entry in entries if entry[0] <= moment]
    return list(standing_terms(known).items())
