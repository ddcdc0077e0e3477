"""Accounts: plans, a first day and a cycle, and what is none."""

from paidspan.errors import NoAccount
from paidspan.wholes import is_whole_between

LETTERS = "abcdefghijklmnopqrstuvwxyz"
MOST_LETTERS = 8
MOST_PLANS = 8
MOST_COUNT = 400
LAST_FIRST_DAY = 3500000
MOST_DAYS = 400
MOST_MONTHS = 12


def is_name(value):
    """Tell whether a value is the name of a plan."""
    if not isinstance(value, str) or len(value) < 1 or len(value) > MOST_LETTERS:
        return False
    for sign in value:
        if sign not in LETTERS:
            return False
    return True


def is_price(value):
    """Tell whether a value is a price, of at most thirty figures."""
    return is_whole_between(value, 0, 10 ** 30 - 1)


def is_plan(plan):
    """Tell whether a tuple is a plan: its name, its price, its count."""
    if len(plan) != 3:
        return False
    name, price, count = plan
    return is_name(name) and is_price(price) and is_whole_between(count, 0, MOST_COUNT)


def is_cycle(cycle):
    """Tell whether a tuple is a cycle, of days or of months."""
    if len(cycle) != 2:
        return False
    word, many = cycle
    if word == "days":
        return is_whole_between(many, 1, MOST_DAYS)
    if word == "months":
        return is_whole_between(many, 1, MOST_MONTHS)
    return False


def check_plans(plans):
    """NoAccount where a list is not one of an account's plans."""
    if len(plans) < 1 or len(plans) > MOST_PLANS:
        raise NoAccount("an account has one to eight plans")
    names = {}
    for plan in plans:
        if not is_plan(plan):
            raise NoAccount("a plan is a name, a price and a count")
        name = plan[0]
        if name in names:
            raise NoAccount("two plans have one name")
        names[name] = True


def check_account(account):
    """NoAccount where a tuple (plans, first, cycle) is no account."""
    plans, first, cycle = account
    check_plans(plans)
    if not is_whole_between(first, 0, LAST_FIRST_DAY):
        raise NoAccount("no account begins on this day")
    if not is_cycle(cycle):
        raise NoAccount("a cycle is of 1 to 400 days or of 1 to 12 months")
