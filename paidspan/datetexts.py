"""Days written as their dates, YYYY-MM-DD."""

from paidspan.dates import date_of, day_of
from paidspan.errors import NoDate

FIGURES = "0123456789"


def show_date(number):
    """Write a day as its date; NoDate where no day has this number."""
    year, month, day = date_of(number)
    return "-".join([str(year).zfill(4), str(month).zfill(2), str(day).zfill(2)])


def read_figures(text):
    """Read a text of figures alone; NoDate where another sign is in it."""
    # int by itself would also take blanks, a + or -, and figures of other scripts.
    for sign in text:
        if sign not in FIGURES:
            raise NoDate("a date has figures alone in this place")
    return int(text)


def read_date(text):
    """Read a date as the number of its day; NoDate for any other text."""
    if len(text) != 10 or text[4] != "-" or text[7] != "-":
        raise NoDate("a date is written YYYY-MM-DD")
    return day_of(read_figures(text[:4]), read_figures(text[5:7]), read_figures(text[8:]))
