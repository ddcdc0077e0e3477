"""The book: what is billed, what is put right, which credit goes into it, what is paid and paid back."""

from paidspan.accountdays import span_days, span_with
from paidspan.charges import cost_of, lines_ahead, span_cost, stretch_cost
from paidspan.entries import terms_at
from paidspan.pots import Pots
from paidspan.states import in_order, stretches_by


def costs_by(account, entries, many, moment):
    """What each of the first so many spans costs by what is known at a moment."""
    ordered = in_order(account, terms_at(entries, moment))
    costs = []
    for k in range(many):
        span = span_days(account, k)
        costs.append(cost_of(lines_ahead(account, ordered, span, span[1])))
    return costs


def days_entered(entries):
    """The days on which something is entered, as they stand."""
    return [entry[0] for entry in entries]


def work_days(account, entries, day):
    """The days up to a day on which a span begins or something is entered, rising; NoSpan or TooLong by the day."""
    k, begin, end = span_with(account, day)
    begins = [span_days(account, number)[0] for number in range(k + 1)]
    return sorted(set(begins + [entered for entered in days_entered(entries) if entered <= day]))


def grant_lines(pots, entries, day):
    """Put what is granted on a day into given."""
    lines = []
    for number, entry in enumerate(entries):
        entered, change = entry
        if entered == day and change[0] == "grant":
            pots.grant(change[1])
            lines.append((day, "grant", number, change[1], 0, 0, 0))
    return lines


def line_of_less(pots, day, k, amount):
    """Let span k give an amount back."""
    given, own = pots.give(k, amount)
    return (day, "right", k, -amount, -given, -own, 0)


def line_of_more(pots, day, kind, k, amount):
    """Let span k take an amount more."""
    given, own, paid = pots.take(k, amount)
    return (day, kind, k, amount, given, own, paid)


def right_lines(pots, day, costs):
    """Put the first spans right, by what each costs: those that cost less than they took, then those that cost more."""
    more = [cost - sum(pots.took(k)) for k, cost in enumerate(costs)]
    lines = []
    for k, amount in enumerate(more):
        if amount < 0:
            lines.append(line_of_less(pots, day, k, -amount))
    for k, amount in enumerate(more):
        if amount > 0:
            lines.append(line_of_more(pots, day, "right", k, amount))
    return lines


def back_lines(pots, entries, day):
    """Pay all own credit back where this was entered on a day and there is any."""
    if (day, ("back",)) not in entries:
        return []
    amount = pots.pay_back()
    if amount == 0:
        return []
    return [(day, "back", -1, amount, 0, 0, 0)]


def work_of_day(account, entries, pots, day):
    """The work of a day, as the lines that come of it."""
    k, begin, end = span_with(account, day)
    is_begin = begin == day
    lines = grant_lines(pots, entries, day)
    # Where nothing is entered nothing more is known: each span that began ahead still costs what it took.
    if day in days_entered(entries):
        lines.extend(right_lines(pots, day, costs_by(account, entries, k if is_begin else k + 1, day)))
    if is_begin:
        lines.append(line_of_more(pots, day, "bill", k, span_cost(account, terms_at(entries, day), k)))
    lines.extend(back_lines(pots, entries, day))
    return lines


def keep_book(account, entries, day):
    """The lines of the book up to a day, with its work, and the pots behind it; NoSpan or TooLong by the day."""
    pots = Pots()
    lines = []
    for work_day in work_days(account, entries, day):
        lines.extend(work_of_day(account, entries, pots, work_day))
    return (lines, pots)


def book_lines(account, entries, day):
    """The lines of the book up to a day, as a new list of (day, kind, number, amount, given, own, paid)."""
    lines, pots = keep_book(account, entries, day)
    return lines


def amount_of(lines, kinds):
    """What the lines of these kinds come to."""
    return sum([line[3] for line in lines if line[1] in kinds])


def book_sums(account, entries, day):
    """The sums of the book at a day, as (billed, paid, back, granted, own, given)."""
    lines, pots = keep_book(account, entries, day)
    own, given = pots.left()
    billed = amount_of(lines, ("bill", "right"))
    paid = sum([line[6] for line in lines])
    return (billed, paid, amount_of(lines, ("back",)), amount_of(lines, ("grant",)), own, given)


def owed(account, entries, day):
    """What the days behind a day cost of the spans that have begun; NoSpan or TooLong by the day."""
    # Of these spans the day's own alone has days behind it.
    k, begin, end = span_with(account, day)
    ordered = in_order(account, terms_at(entries, day))
    return sum([stretch_cost(account, (begin, end), rest) for rest in stretches_by(ordered, day + 1, end)])
