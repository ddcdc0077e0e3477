"""What the desk answers to questions, as texts."""

from paidspan.accountdays import span_with
from paidspan.amounts import show_amount
from paidspan.books import book_lines, book_sums, owed
from paidspan.charges import cost_of, span_lines
from paidspan.corrections import moved
from paidspan.datetexts import show_date
from paidspan.entries import terms_at
from paidspan.states import state_on


def show_amounts(amounts, places):
    """Write amounts with places, blanks between."""
    return " ".join([show_amount(amount, places) for amount in amounts])


def show_state(state):
    """Write a state: its plan or -, its seats, its word."""
    plan, seats, word = state
    name = "-" if plan is None else plan
    return f"{name} {seats} {word}"


def show_days(begin, end):
    """Write a begin and an end."""
    return show_date(begin) + " " + show_date(end)


def in_parts(parts):
    """Put parts together; none where there are none."""
    if len(parts) == 0:
        return "none"
    return "; ".join(parts)


def tell_state(account, entries, day):
    """The state of a day by what is known at it."""
    return show_state(state_on(account, terms_at(entries, day), day))


def tell_span(account, entries, places, day):
    """The span in which a day lies, and its lines, by what is known at the day."""
    k, begin, end = span_with(account, day)
    lines = span_lines(account, terms_at(entries, day), k)
    parts = [" ".join([str(k), show_days(begin, end), show_amount(cost_of(lines), places)])]
    for opened, closed, state, cost in lines:
        parts.append(" ".join([show_days(opened, closed), show_state(state), show_amount(cost, places)]))
    return in_parts(parts)


def tell_lines(account, entries, places, day):
    """The lines of the book up to a day."""
    parts = []
    for line in book_lines(account, entries, day):
        parts.append(" ".join([show_date(line[0]), line[1], str(line[2]), show_amounts(line[3:], places)]))
    return in_parts(parts)


def tell_sums(account, entries, places, day):
    """The sums of the book at a day, and what is owed at it."""
    return show_amounts(book_sums(account, entries, day) + (owed(account, entries, day),), places)


def tell_moved(account, entries, places, one, other):
    """What moved between two days."""
    parts = []
    for number, before, behind in moved(account, entries, one, other):
        parts.append(" ".join([str(number), show_amounts([before, behind], places)]))
    return in_parts(parts)
