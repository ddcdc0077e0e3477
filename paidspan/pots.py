"""The two pots of credit: given, which was granted, and own, which was paid and is free again."""


class Pots:
    """Both pots, and of each span what it took of given credit and of money."""

    def __init__(self):
        self.given = 0
        self.own = 0
        self.taken = {}

    def grant(self, amount):
        """Put an amount into given."""
        self.given += amount

    def take(self, k, amount):
        """Let span k take so much more: what comes from given, from own, and what is paid."""
        from_given = min(amount, self.given)
        from_own = min(amount - from_given, self.own)
        paid = amount - from_given - from_own
        self.given -= from_given
        self.own -= from_own
        given, money = self.took(k)
        self.taken[k] = (given + from_given, money + from_own + paid)
        return (from_given, from_own, paid)

    def give(self, k, amount):
        """Let span k give so much back: what goes to given, and what to own."""
        given, money = self.took(k)
        to_own = min(amount, money)
        to_given = amount - to_own
        self.own += to_own
        self.given += to_given
        self.taken[k] = (given - to_given, money - to_own)
        return (to_given, to_own)

    def pay_back(self):
        """Pay all own credit back: how much that is."""
        amount = self.own
        self.own = 0
        return amount

    def took(self, k):
        """What span k took of given credit, and what of money."""
        return self.taken.get(k, (0, 0))

    def left(self):
        """What lies in own, and what in given."""
        return (self.own, self.given)
