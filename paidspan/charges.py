"""What stretches, days and spans cost, and what is earned ahead of a day."""

from paidspan.accountdays import end_of_account, span_days, span_with
from paidspan.cycles import SPANS
from paidspan.parts import share
from paidspan.states import in_order, state_on, stretches_by


def price_and_count(account, name):
    """The price and the count of the account's plan of this name."""
    return [(price, count) for plan, price, count in account[0] if plan == name][0]


def stretch_cost(account, span, stretch):
    """What a stretch (begin, end, state) costs that lies in a span (begin, end)."""
    begin, end, state = stretch
    name, seats, word = state
    if name is None or word != "on":
        return 0
    span_begin, span_end = span
    price, count = price_and_count(account, name)
    if count == 0:
        count = span_end - span_begin
    return share(price * seats, count, begin - span_begin, end - span_begin)


def day_cost(account, terms, day):
    """What a day costs; NoSpan or TooLong where it is none of the account."""
    k, begin, end = span_with(account, day)
    return stretch_cost(account, (begin, end), (day, day + 1, state_on(account, terms, day)))


def lines_ahead(account, ordered, span, day):
    """The lines of a span's days ahead of a day, by terms in their order."""
    lines = []
    for stretch in stretches_by(ordered, span[0], day):
        begin, end, state = stretch
        lines.append((begin, end, state, stretch_cost(account, span, stretch)))
    return lines


def cost_of(lines):
    """What lines come to."""
    return sum([line[3] for line in lines])


def span_lines(account, terms, k):
    """The lines of span k, as a new list of (begin, end, state, cost); NoSpan or TooLong where it is none."""
    span = span_days(account, k)
    return lines_ahead(account, in_order(account, terms), span, span[1])


def span_cost(account, terms, k):
    """What span k costs; NoSpan or TooLong where it is none."""
    return cost_of(span_lines(account, terms, k))


def earned(account, terms, day):
    """What all days of the account ahead of a day cost; NoSpan or TooLong where it is none, nor the end of span 59."""
    if day != end_of_account(account):
        span_with(account, day)
    # Put in order once: by span_cost this would be done for each span anew.
    ordered = in_order(account, terms)
    total = 0
    for k in range(SPANS):
        span = span_days(account, k)
        if span[0] >= day:
            break
        total += cost_of(lines_ahead(account, ordered, span, min(span[1], day)))
    return total
