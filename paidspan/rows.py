"""Rows that the desk is told, and how their words are read."""

from paidspan.amounts import read_amount
from paidspan.datetexts import read_date
from paidspan.entries import TERMS
from paidspan.errors import NoRow
from paidspan.forms import fits_form

QUESTIONS = ("state DATE", "span DATE", "lines DATE", "sums DATE", "moved DATE OTHER")
ENTRIES = ("DATE plan NAME from TO", "DATE seats N from TO", "DATE hold from TO", "DATE go from TO",
           "DATE stop from TO", "DATE last from TO", "DATE undo N", "DATE grant AMOUNT", "DATE back")


def form_of(words):
    """The form by which the words of a row are written; NoRow where there is none."""
    # Questions first: what can be read as one is one.
    for form in QUESTIONS + ENTRIES:
        if fits_form(form, words):
            return form
    raise NoRow("there is no such row")


def read_word(kind, word, places):
    """Read a word as what it stands for in its form; NoDate or NoAmount where it is none."""
    if kind in ("DATE", "TO", "OTHER"):
        return read_date(word)
    if kind == "AMOUNT":
        return read_amount(word, places)
    if kind == "N":
        return int(word)
    return word


def read_row(row, places):
    """Read a row as a tuple of its form and the list of what its words stand for; NoRow, then NoDate or NoAmount."""
    words = row.split(" ")
    form = form_of(words)
    return (form, [read_word(kind, word, places) for kind, word in zip(form.split(" "), words)])


def entry_of(values):
    """The entry of which the words of a row stand for these values."""
    entered = values[0]
    word = values[1]
    if word in ("plan", "seats"):
        return (entered, (word, values[4], values[2]))
    if word in TERMS:
        return (entered, (word, values[3]))
    return (entered, tuple(values[1:]))
