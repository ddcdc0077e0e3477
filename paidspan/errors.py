"""The refusals of the program: each stands right under SpanError."""


class SpanError(ValueError):
    """Any refusal."""


class NoDate(SpanError):
    """What was handed in is no date, or the number of no day."""


class NoParts(SpanError):
    """An amount can't be spread by these weights."""


class NoAmount(SpanError):
    """A text is not an amount as amounts are written."""


class NoSpan(SpanError):
    """A span of a number below 0, or a day ahead of the first one."""


class TooLong(SpanError):
    """Beyond the last span that is told of, or too many entries."""


class NoAccount(SpanError):
    """What was handed in is no account."""


class NoText(SpanError):
    """A text is not written as an account is."""


class NoRow(SpanError):
    """A row is none that the desk can be told."""


class NoEntry(SpanError):
    """The entry of this number can't stand where it does."""

    def __init__(self, number):
        self.number = number
