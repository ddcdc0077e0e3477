"""Spans: where they begin, and the one in which a day lies."""

from paidspan.dates import months_on
from paidspan.errors import NoSpan, TooLong

# Spans 0 to 59 are told of; the begin of span 60 is the end of the last one.
SPANS = 60


def begin_of(first, cycle, k):
    """The day on which span k begins, k from 0 to 60; else NoSpan or TooLong."""
    if k < 0:
        raise NoSpan("no span has a number below 0")
    if k > SPANS:
        raise TooLong("no span of so great a number is told of")
    word, many = cycle
    # Always from the first day itself: a short month on the way must not draw the later begins ahead.
    if word == "months":
        return months_on(first, k * many)
    return first + k * many


def span_on(first, cycle, day):
    """The span in which a day lies, as (k, begin, end); NoSpan or TooLong where it lies in none."""
    if day < first:
        raise NoSpan("the day is ahead of the first day")
    if day >= begin_of(first, cycle, SPANS):
        raise TooLong("the day is behind the last span that is told of")
    # The day is never ahead of the begin of span low, and always ahead of that of span high.
    low = 0
    high = SPANS
    while high - low > 1:
        middle = (low + high) // 2
        if day < begin_of(first, cycle, middle):
            high = middle
        else:
            low = middle
    return (low, begin_of(first, cycle, low), begin_of(first, cycle, high))
