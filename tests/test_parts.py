"""A price shared out over days, an amount spread by weights (points 7 and 8)."""

import inspect
import unittest
from fractions import Fraction

from paidspan.errors import NoParts, SpanError
from paidspan.parts import share, spread

THIRTY_FIGURES = 987654321098765432109876543211
FORTY_FIGURES = 9876543210987654321098765432109876543211
TWELVE_FIGURES = 987654321011

PRICES = (0, 1, 2, 7, 99, 100, 1250, 2999, FORTY_FIGURES, 10 ** 39, 10 ** 40 - 1)
COUNTS = (1, 2, 3, 28, 30, 31, 365, 400, 999, TWELVE_FIGURES)

WEIGHTS = (
    [1],
    [7],
    [1, 1],
    [1, 1, 1],
    [3, 5, 7],
    [0, 1],
    [1, 0],
    [0, 0, 0, 5, 0, 0],
    [0, 3, 0, 0, 4, 0],
    [2, 0, 1],
    [1] * 20,
    list(range(1, 21)),
    [0] * 19 + [1],
    [1] + [0] * 19,
    [0] * 10 + [9] + [0] * 9,
    [THIRTY_FIGURES],
    [THIRTY_FIGURES, 1],
    [1, THIRTY_FIGURES],
    [0, THIRTY_FIGURES, 0, THIRTY_FIGURES - 2, 1, 0],
    [10 ** 29 + 7 * k for k in range(20)],
)
AMOUNTS = (0, 1, 2, 3, 10, 19, 20, 99, 1000, 1250, 10 ** 29, THIRTY_FIGURES, 10 ** 30 - 1)


def part_of_first(price, count, days):
    """What the first days have, reckoned apart from the program."""
    exact = Fraction(price * days, count)
    return exact.numerator // exact.denominator


def days_to_try(count):
    near = (count - 1, count, count + 1, 2 * count, 2 * count + 1, 3 * count - 1)
    return sorted({day for day in (0, 1, 2, 13, count // 3, count // 2) + near if day >= 0})


class Share(unittest.TestCase):
    def test_arguments(self):
        self.assertEqual(str(inspect.signature(share)), "(price, count, begin, end)")

    def test_known_parts(self):
        for handed, told in (((100, 3, 0, 1), 33), ((100, 3, 1, 2), 33), ((100, 3, 2, 3), 34), ((100, 3, 3, 4), 33),
                             ((100, 3, 0, 4), 133), ((3100, 31, 10, 20), 1000), ((1, 30, 0, 29), 0), ((1, 30, 29, 30), 1),
                             ((1000, 30, 15, 16), 33), ((1000, 30, 16, 17), 33), ((1000, 30, 17, 18), 34),
                             ((10 ** 39, 3, 1, 2), 333333333333333333333333333333333333333)):
            self.assertEqual(share(*handed), told, handed)
            self.assertIs(type(share(*handed)), int)

    def test_what_a_stretch_has(self):
        for price in PRICES:
            for count in COUNTS:
                days = days_to_try(count)
                for begin in days:
                    for end in days:
                        if begin <= end:
                            told = part_of_first(price, count, end) - part_of_first(price, count, begin)
                            self.assertEqual(share(price, count, begin, end), told, (price, count, begin, end))

    def test_the_first_count_days_have_just_the_price(self):
        for price in PRICES:
            for count in COUNTS:
                self.assertEqual(share(price, count, 0, count), price, (price, count))
                self.assertEqual(share(price, count, count, 2 * count), price, (price, count))
                self.assertEqual(share(price, count, 0, 3 * count), 3 * price, (price, count))

    def test_begin_and_end_alike(self):
        for price in PRICES:
            for count in COUNTS:
                for day in days_to_try(count):
                    self.assertEqual(share(price, count, day, day), 0, (price, count, day))

    def test_never_below_nought(self):
        for price in PRICES:
            for count in COUNTS:
                for day in days_to_try(count):
                    self.assertGreaterEqual(share(price, count, day, day + 1), 0, (price, count, day))

    def test_the_days_add_up_to_the_stretch(self):
        for price in PRICES:
            for count in (1, 2, 3, 28, 31, 400):
                for begin, end in ((0, count), (0, count + 40), (5, 5 + count), (17, 90)):
                    days = [share(price, count, day, day + 1) for day in range(begin, end)]
                    self.assertEqual(sum(days), share(price, count, begin, end), (price, count, begin, end))

    def test_cut_at_any_day(self):
        for price in PRICES:
            for count in COUNTS:
                for begin, end in ((0, 60), (0, 31), (7, 45)):
                    whole = share(price, count, begin, end)
                    for cut in range(begin, end + 1):
                        parts = share(price, count, begin, cut) + share(price, count, cut, end)
                        self.assertEqual(parts, whole, (price, count, begin, cut, end))
                for cut in days_to_try(count):
                    end = 4 * count
                    parts = share(price, count, 0, cut) + share(price, count, cut, end)
                    self.assertEqual(parts, 4 * price, (price, count, cut))


class Spread(unittest.TestCase):
    def assert_no_parts(self, amount, weights):
        kept = list(weights)
        with self.assertRaises(NoParts, msg=(amount, weights)) as caught:
            spread(amount, weights)
        self.assertIs(type(caught.exception), NoParts)
        self.assertIsInstance(caught.exception, SpanError)
        self.assertEqual(weights, kept)

    def test_arguments(self):
        self.assertEqual(str(inspect.signature(spread)), "(amount, weights)")

    def test_known_parts(self):
        for amount, weights, told in ((100, [1, 1, 1], [33, 33, 34]), (10, [1, 2, 3, 4], [1, 2, 3, 4]),
                                      (1, [1, 1, 1], [0, 0, 1]), (2, [1, 1, 1], [0, 1, 1]), (100, [0, 1, 0], [0, 100, 0]),
                                      (5, [2, 0, 1], [3, 0, 2]), (7, [9], [7]), (0, [1, 2], [0, 0]),
                                      (10, [3, 3, 1], [4, 4, 2]), (1, [10 ** 29, 1], [0, 1])):
            self.assertEqual(spread(amount, weights), told, (amount, weights))

    def test_by_the_sums_of_the_weights(self):
        for amount in AMOUNTS:
            for weights in WEIGHTS:
                parts = spread(amount, weights)
                for many in range(1, len(weights) + 1):
                    told = part_of_first(amount, sum(weights), sum(weights[:many]))
                    self.assertEqual(sum(parts[:many]), told, (amount, weights, many))

    def test_the_parts_add_up(self):
        for amount in AMOUNTS:
            for weights in WEIGHTS:
                self.assertEqual(sum(spread(amount, weights)), amount, (amount, weights))

    def test_less_than_one_away_from_the_exact_share(self):
        for amount in AMOUNTS:
            for weights in WEIGHTS:
                for part, weight in zip(spread(amount, weights), weights, strict=True):
                    away = Fraction(amount * weight, sum(weights)) - part
                    self.assertLess(abs(away), 1, (amount, weights, weight))
                    self.assertGreaterEqual(part, 0, (amount, weights, weight))

    def test_a_weight_of_nought_has_nought(self):
        for amount in AMOUNTS:
            for weights in WEIGHTS:
                for part, weight in zip(spread(amount, weights), weights, strict=True):
                    if weight == 0:
                        self.assertEqual(part, 0, (amount, weights))

    def test_one_weight_alone_has_all(self):
        for amount in AMOUNTS:
            for place in range(20):
                for weight in (1, 3, THIRTY_FIGURES):
                    weights = [0] * place + [weight] + [0] * (19 - place)
                    self.assertEqual(spread(amount, weights), [0] * place + [amount] + [0] * (19 - place))

    def test_a_new_list_of_whole_numbers(self):
        weights = [1, 2, 3]
        one = spread(6, weights)
        two = spread(6, weights)
        self.assertIs(type(one), list)
        self.assertTrue(all(type(part) is int for part in one))
        self.assertEqual(one, weights)
        self.assertIsNot(one, weights)
        self.assertIsNot(one, two)
        one.append(9)
        self.assertEqual((two, weights, spread(6, weights)), ([1, 2, 3], [1, 2, 3], [1, 2, 3]))

    def test_the_weights_stay_as_they_are(self):
        for amount in AMOUNTS:
            for weights in WEIGHTS:
                handed = list(weights)
                parts = spread(amount, handed)
                self.assertEqual(handed, weights)
                handed.append(1)
                handed[0] = 5
                self.assertEqual(parts, spread(amount, weights))

    def test_no_weight(self):
        for amount in AMOUNTS:
            self.assert_no_parts(amount, [])

    def test_too_many_weights(self):
        for amount in AMOUNTS:
            for many in (21, 22, 40, 1000):
                self.assert_no_parts(amount, [1] * many)
            self.assert_no_parts(amount, [0] * 20 + [1])
            self.assert_no_parts(amount, [0] * 21)

    def test_all_of_them_nought(self):
        for amount in AMOUNTS:
            for many in (1, 2, 19, 20):
                self.assert_no_parts(amount, [0] * many)

    def test_a_weight_below_nought(self):
        for amount in AMOUNTS:
            for weights in ([-1], [-1, 2], [2, -1], [1, -1], [-1, 1], [5, -1, 5], [0, -1], [-1, -1], [-2, 1],
                            [1] * 19 + [-1], [-THIRTY_FIGURES, THIRTY_FIGURES], [THIRTY_FIGURES, -1]):
                self.assert_no_parts(amount, weights)

    def test_truths_are_no_weights(self):
        for weights in ([True], [False, 1], [1, True]):
            self.assert_no_parts(10, weights)


if __name__ == "__main__":
    unittest.main()
