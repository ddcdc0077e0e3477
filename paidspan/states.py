"""What is in force: from which day a term counts, the state of a day, stretches of one state."""

from paidspan.accountdays import span_with

WORDS = {"hold": "held", "go": "on", "stop": "off", "last": "off"}


def counts_from(account, change):
    """The day from which a term counts."""
    own_day = change[1]
    if change[0] == "last":
        k, begin, end = span_with(account, own_day)
        return end
    return own_day


def in_order(account, terms):
    """The terms as (day from which it counts, own day, number, change), a later one behind an earlier one."""
    return sorted([(counts_from(account, change), change[1], number, change) for number, change in terms])


def state_by(ordered, day):
    """The state of a day by terms in their order."""
    name = None
    seats = 1
    word = "on"
    for counts, own_day, number, change in ordered:
        if counts > day:
            break
        if change[0] == "plan":
            name = change[2]
        elif change[0] == "seats":
            seats = change[2]
        else:
            word = WORDS[change[0]]
    return (name, seats, word)


def state_on(account, terms, day):
    """The state of a day, as (plan, seats, word); NoSpan or TooLong where it is none of the account."""
    # The span itself isn't asked for, but a day that lies in none is refused so.
    span_with(account, day)
    return state_by(in_order(account, terms), day)


def stretches_by(ordered, begin, end):
    """The stretches from one day up to another by terms in their order."""
    if begin == end:
        return []
    told = []
    opened = begin
    state = state_by(ordered, begin)
    for term in ordered:
        day = term[0]
        if begin < day and day < end:
            behind = state_by(ordered, day)
            # Several terms of one day, or a term that changes nothing, make no stretch of their own.
            if behind != state:
                told.append((opened, day, state))
                opened = day
                state = behind
    told.append((opened, end, state))
    return told


def stretches(account, terms, begin, end):
    """The stretches from one day up to another, as a new list of (begin, end, state)."""
    return stretches_by(in_order(account, terms), begin, end)
