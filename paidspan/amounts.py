"""Amounts written with places, and read so."""

from paidspan.datetexts import FIGURES
from paidspan.errors import NoAmount

MOST_FIGURES = 60


def show_amount(amount, places=2):
    """Write an amount with so many figures behind its point; without a point where there are none."""
    sign = "-" if amount < 0 else ""
    # One figure at least stands ahead of the point.
    figures = str(abs(amount)).zfill(places + 1)
    if places == 0:
        return sign + figures
    ahead = len(figures) - places
    return sign + figures[:ahead] + "." + figures[ahead:]


def only_figures(text):
    """Tell whether a text has one figure at least, and no other sign."""
    for sign in text:
        if sign not in FIGURES:
            return False
    return len(text) > 0


def read_amount(text, places=2):
    """Read an amount that is written with so many places; NoAmount for any other text."""
    figures = text.replace("-", "").replace(".", "")
    if len(figures) > MOST_FIGURES:
        raise NoAmount("an amount has at most sixty figures")
    if not only_figures(figures):
        raise NoAmount("an amount has figures, a point and a - alone")
    amount = int(figures)
    if text.startswith("-"):
        amount = -amount
    # An amount is written in one way alone, so this finds each sign that is amiss or out of its place.
    if show_amount(amount, places) != text:
        raise NoAmount("an amount is written otherwise")
    return amount
