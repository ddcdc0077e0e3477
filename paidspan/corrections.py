"""Entries as they come to if each is entered in its time, and what moved between two days."""

from paidspan.accountdays import span_with
from paidspan.books import costs_by
from paidspan.entries import standing_terms
from paidspan.errors import NoSpan


def in_time(entries):
    """The entries in their time, as a new list: terms on their own days, without undos and what they undid."""
    terms = [(change[1], change) for change in standing_terms(entries).values()]
    others = [entry for entry in entries if entry[1][0] in ("grant", "back")]
    # Those of one day stay in the order in which they stand here: terms first, each as it stood.
    return sorted(terms + others, key=lambda entry: entry[0])


def moved(account, entries, one, other):
    """The spans begun at one day that cost something else by another: a new list of (number, before, behind)."""
    k, begin, end = span_with(account, one)
    # The span itself isn't asked for, but a day that lies in none is refused so.
    span_with(account, other)
    if one > other:
        raise NoSpan("the first day is behind the second")
    before = costs_by(account, entries, k + 1, one)
    behind = costs_by(account, entries, k + 1, other)
    return [(number, before[number], behind[number]) for number in range(k + 1) if before[number] != behind[number]]
