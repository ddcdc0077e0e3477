"""The days of an account, and its spans."""

from paidspan.cycles import SPANS, begin_of, span_on
from paidspan.wholes import is_whole_between


def end_of_account(account):
    """The end of span 59: the day behind the last day of the account."""
    plans, first, cycle = account
    return begin_of(first, cycle, SPANS)


def is_day_of(account, value):
    """Tell whether a value is a day of the account."""
    plans, first, cycle = account
    return is_whole_between(value, first, end_of_account(account) - 1)


def span_days(account, k):
    """Span k as (begin, end), k from 0 to 59; else NoSpan or TooLong."""
    plans, first, cycle = account
    # Span 60 is refused by its end: its begin alone is told of.
    return (begin_of(first, cycle, k), begin_of(first, cycle, k + 1))


def span_with(account, day):
    """The span in which a day lies, as (k, begin, end); NoSpan or TooLong where it is none of the account."""
    plans, first, cycle = account
    return span_on(first, cycle, day)
