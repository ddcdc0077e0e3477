"""Accounts with places, written as texts and read so."""

from paidspan.accounts import check_account
from paidspan.amounts import read_amount, show_amount
from paidspan.datetexts import read_date, show_date
from paidspan.errors import NoText
from paidspan.forms import fits_form

MOST_PLACES = 6


def show_plan(places, plan):
    """Write a plan as a line."""
    name, price, count = plan
    line = "plan " + name + " " + show_amount(price, places)
    if count == 0:
        return line
    return line + " per " + str(count)


def show_account(places, account):
    """Write an account with places as a text."""
    plans, first, cycle = account
    word, many = cycle
    lines = [f"places {places}", "first " + show_date(first), f"every {many} {word}"]
    return "\n".join(lines + [show_plan(places, plan) for plan in plans])


def fits_places(words):
    """Tell whether words are those of a line of places."""
    return fits_form("places N", words) and int(words[1]) <= MOST_PLACES


def fits_cycle(words):
    """Tell whether words are those of a line of a cycle."""
    return fits_form("every N days", words) or fits_form("every N months", words)


def fits_plan(words):
    """Tell whether words are those of a line of a plan."""
    if fits_form("plan NAME PRICE", words):
        return True
    # A count of 0 is left out in a text, so it has no second way to be written.
    return fits_form("plan NAME PRICE per N", words) and words[4] != "0"


def fits_lines(lines):
    """Tell whether lines, each a list of its words, are written as those of an account."""
    if len(lines) < 4 or any(["" in words for words in lines]):
        return False
    if not fits_places(lines[0]) or not fits_form("first DATE", lines[1]) or not fits_cycle(lines[2]):
        return False
    return all([fits_plan(words) for words in lines[3:]])


def read_plan(places, words):
    """Read a plan from the words of its line; NoAmount where its price is none."""
    count = int(words[4]) if len(words) > 3 else 0
    return (words[1], read_amount(words[2], places), count)


def read_account(text):
    """Read a text as (places, account); NoText, then NoDate or NoAmount, then NoAccount where it is none."""
    lines = [line.split(" ") for line in text.split("\n")]
    if not fits_lines(lines):
        raise NoText("an account is written otherwise")
    places = int(lines[0][1])
    first = read_date(lines[1][1])
    cycle = (lines[2][2], int(lines[2][1]))
    account = ([read_plan(places, words) for words in lines[3:]], first, cycle)
    check_account(account)
    return (places, account)
