"""Dates, the numbers of their days, and steps by months."""

from paidspan.errors import NoDate

LAST_YEAR = 9999
LAST_DAY = 3652058

# February as in a year without a 29th.
MONTH_DAYS = (31, 28, 31, 30, 31, 30, 31, 31, 30, 31, 30, 31)

# The calendar comes round every 400 years. The last hundred of such a round,
# and the last year of four, may have a day more than the others like it.
ROUND_DAYS = 146097
HUNDRED_YEARS_DAYS = 36524
FOUR_YEARS_DAYS = 1461
YEAR_DAYS = 365


def has_leap_day(year):
    """Tell whether a year has a 29 February."""
    return year % 4 == 0 and (year % 100 != 0 or year % 400 == 0)


def days_in(year, month):
    """How many days a month has; NoDate where there is no such month."""
    # The words of a refusal leave numbers out: one of too many figures can't be written.
    if year < 1 or year > LAST_YEAR:
        raise NoDate("no such year")
    if month < 1 or month > 12:
        raise NoDate("no such month")
    if month == 2 and has_leap_day(year):
        return 29
    return MONTH_DAYS[month - 1]


def days_ahead_of_year(year):
    """How many days there are from day 0 up to a year's 1 January."""
    past = year - 1
    return past * YEAR_DAYS + past // 4 - past // 100 + past // 400


def day_of(year, month, day):
    """The number of a date's day; NoDate where there is no such date."""
    if day < 1 or day > days_in(year, month):
        raise NoDate("no such day in this month")
    ahead = days_ahead_of_year(year)
    for earlier in range(1, month):
        ahead += days_in(year, earlier)
    return ahead + day - 1


def year_of(number):
    """The year in which a day lies."""
    rounds, rest = divmod(number, ROUND_DAYS)
    # Without the bound of 3 the added day at the end would open a hundred, or a year, of its own.
    hundreds = min(rest // HUNDRED_YEARS_DAYS, 3)
    rest -= hundreds * HUNDRED_YEARS_DAYS
    fours, rest = divmod(rest, FOUR_YEARS_DAYS)
    ones = min(rest // YEAR_DAYS, 3)
    return rounds * 400 + hundreds * 100 + fours * 4 + ones + 1


def date_of(number):
    """The date of a day; NoDate where no day has this number."""
    if number < 0 or number > LAST_DAY:
        raise NoDate("no day has this number")
    year = year_of(number)
    rest = number - days_ahead_of_year(year)
    month = 1
    while rest >= days_in(year, month):
        rest -= days_in(year, month)
        month += 1
    return (year, month, rest + 1)


def months_on(number, many):
    """The day that is so many months on from a day; NoDate where there is no such month."""
    year, month, day = date_of(number)
    months = year * 12 + month - 1 + many
    to_year = months // 12
    to_month = months % 12 + 1
    return day_of(to_year, to_month, min(day, days_in(to_year, to_month)))
