"""Parts that add up: a price shared out over days, an amount spread by weights."""

from paidspan.errors import NoParts
from paidspan.wholes import is_whole

MOST_WEIGHTS = 20


def share(price, count, begin, end):
    """What the days from begin up to end, the end not with them, have of a price for so many days."""
    # Each is rounded by itself from day 0 on: so the parts of a stretch add up wherever it is cut.
    return price * end // count - price * begin // count


def check_weights(weights):
    """NoParts where an amount can't be spread by these weights."""
    if len(weights) < 1 or len(weights) > MOST_WEIGHTS:
        raise NoParts("there are one to twenty weights")
    for weight in weights:
        if not is_whole(weight) or weight < 0:
            raise NoParts("a weight is a whole number from 0 on")
    if sum(weights) == 0:
        raise NoParts("one weight at least is above 0")


def spread(amount, weights):
    """The amount's parts by the weights, as a new list; NoParts where there are none."""
    check_weights(weights)
    total = sum(weights)
    parts = []
    ahead = 0
    for weight in weights:
        # The weights lie one behind the other, like stretches of as many days.
        parts.append(share(amount, total, ahead, ahead + weight))
        ahead += weight
    return parts
