"""The two pots of credit (point 18, and 4 as far as it speaks of them)."""

import inspect
import random
import unittest

from paidspan.pots import Pots

THIRTY_FIGURES = 10 ** 30 - 1


class Case(unittest.TestCase):
    def assert_pots(self, pots, own, given, took):
        self.assertEqual(pots.left(), (own, given))
        for k in range(60):
            self.assertEqual(pots.took(k), took.get(k, (0, 0)), k)


class Arguments(unittest.TestCase):
    def test_arguments(self):
        for asked, told in ((Pots.grant, "(self, amount)"), (Pots.take, "(self, k, amount)"),
                            (Pots.give, "(self, k, amount)"), (Pots.pay_back, "(self)"), (Pots.took, "(self, k)"),
                            (Pots.left, "(self)")):
            self.assertEqual(str(inspect.signature(asked)), told)
        self.assertEqual(str(inspect.signature(Pots)), "()")

    def test_kinds(self):
        pots = Pots()
        self.assertIsNone(pots.grant(5))
        for told, many in ((pots.take(0, 7), 3), (pots.give(0, 3), 2), (pots.took(0), 2), (pots.took(1), 2), (pots.left(), 2)):
            self.assertIs(type(told), tuple)
            self.assertEqual([type(value) for value in told], [int] * many)
        self.assertIs(type(pots.pay_back()), int)


class KnownPots(Case):
    def test_at_first_all_is_nought(self):
        self.assert_pots(Pots(), 0, 0, {})
        self.assertEqual(Pots().pay_back(), 0)

    def test_asking_changes_nothing(self):
        pots = Pots()
        pots.grant(5)
        pots.take(3, 8)
        for turn in range(3):
            self.assert_pots(pots, 0, 0, {3: (5, 3)})

    def test_grants(self):
        pots = Pots()
        pots.grant(5)
        self.assert_pots(pots, 0, 5, {})
        pots.grant(0)
        self.assert_pots(pots, 0, 5, {})
        pots.grant(THIRTY_FIGURES)
        self.assert_pots(pots, 0, THIRTY_FIGURES + 5, {})
        self.assertEqual(pots.pay_back(), 0)
        self.assert_pots(pots, 0, THIRTY_FIGURES + 5, {})

    def test_a_span_takes_from_empty_pots(self):
        pots = Pots()
        self.assertEqual(pots.take(0, 100), (0, 0, 100))
        self.assert_pots(pots, 0, 0, {0: (0, 100)})

    def test_a_span_takes_from_given(self):
        for granted, taken, told, left in ((100, 99, (99, 0, 0), 1), (100, 100, (100, 0, 0), 0), (100, 101, (100, 0, 1), 0)):
            pots = Pots()
            pots.grant(granted)
            self.assertEqual(pots.take(59, taken), told)
            self.assert_pots(pots, 0, left, {59: (told[0], told[2])})

    def own_and_given(self, own, given):
        """Pots with so much in each, in which span 0 took nothing in the end."""
        pots = Pots()
        self.assertEqual(pots.take(0, own), (0, 0, own))
        self.assertEqual(pots.give(0, own), (0, own))
        pots.grant(given)
        self.assert_pots(pots, own, given, {})
        return pots

    def test_a_span_takes_from_given_then_from_own_then_it_is_paid(self):
        for taken, told in ((0, (0, 0, 0)), (1, (1, 0, 0)), (50, (50, 0, 0)), (51, (50, 1, 0)), (79, (50, 29, 0)),
                            (80, (50, 30, 0)), (81, (50, 30, 1)), (1000, (50, 30, 920))):
            pots = self.own_and_given(30, 50)
            self.assertEqual(pots.take(7, taken), told)
            self.assert_pots(pots, 30 - told[1], 50 - told[0], {7: (told[0], told[1] + told[2])})

    def test_a_span_takes_from_own_alone(self):
        pots = self.own_and_given(30, 0)
        self.assertEqual(pots.take(1, 20), (0, 20, 0))
        self.assertEqual(pots.take(1, 20), (0, 10, 10))
        self.assert_pots(pots, 0, 0, {1: (0, 40)})

    def test_a_span_takes_several_times(self):
        pots = Pots()
        pots.grant(10)
        self.assertEqual(pots.take(4, 6), (6, 0, 0))
        self.assertEqual(pots.take(4, 6), (4, 0, 2))
        pots.grant(3)
        self.assertEqual(pots.take(4, 6), (3, 0, 3))
        self.assert_pots(pots, 0, 0, {4: (13, 5)})

    def test_a_span_gives_back_to_own_as_far_as_it_took_of_money(self):
        for back, told in ((0, (0, 0)), (1, (0, 1)), (69, (0, 69)), (70, (0, 70)), (71, (1, 70)), (99, (29, 70)),
                           (100, (30, 70))):
            pots = Pots()
            pots.grant(30)
            self.assertEqual(pots.take(2, 100), (30, 0, 70))
            self.assertEqual(pots.give(2, back), told)
            self.assert_pots(pots, told[1], told[0], {2: (30 - told[0], 70 - told[1])})

    def test_what_came_out_of_own_goes_back_to_own(self):
        pots = self.own_and_given(30, 50)
        self.assertEqual(pots.take(7, 100), (50, 30, 20))
        self.assertEqual(pots.give(7, 60), (10, 50))
        self.assert_pots(pots, 50, 10, {7: (40, 0)})
        self.assertEqual(pots.give(7, 40), (40, 0))
        self.assert_pots(pots, 50, 50, {})

    def test_a_span_gives_back_several_times_and_takes_again(self):
        pots = Pots()
        pots.grant(30)
        pots.take(2, 100)
        self.assertEqual(pots.give(2, 40), (0, 40))
        self.assertEqual(pots.give(2, 40), (10, 30))
        self.assert_pots(pots, 70, 10, {2: (20, 0)})
        self.assertEqual(pots.take(2, 100), (10, 70, 20))
        self.assert_pots(pots, 0, 0, {2: (30, 90)})

    def test_takes_and_gives_of_nought(self):
        for pots, own, given in ((Pots(), 0, 0), (self.own_and_given(30, 50), 30, 50)):
            self.assertEqual(pots.take(5, 0), (0, 0, 0))
            self.assertEqual(pots.give(5, 0), (0, 0))
            self.assertEqual(pots.give(6, 0), (0, 0))
            self.assert_pots(pots, own, given, {})

    def test_each_span_by_itself(self):
        pots = Pots()
        pots.grant(10)
        self.assertEqual(pots.take(0, 15), (10, 0, 5))
        self.assertEqual(pots.take(1, 20), (0, 0, 20))
        self.assertEqual(pots.give(1, 12), (0, 12))
        self.assertEqual(pots.take(59, 9), (0, 9, 0))
        self.assertEqual(pots.give(0, 8), (3, 5))
        self.assert_pots(pots, 8, 3, {0: (7, 0), 1: (0, 8), 59: (0, 9)})
        self.assertEqual(pots.take(1, 5), (3, 2, 0))
        self.assert_pots(pots, 6, 0, {0: (7, 0), 1: (3, 10), 59: (0, 9)})

    def test_pay_back(self):
        pots = self.own_and_given(30, 50)
        self.assertEqual(pots.pay_back(), 30)
        self.assert_pots(pots, 0, 50, {})
        self.assertEqual(pots.pay_back(), 0)
        self.assertEqual(pots.take(0, 60), (50, 0, 10))
        self.assertEqual(pots.pay_back(), 0)
        self.assertEqual(pots.give(0, 4), (0, 4))
        self.assertEqual(pots.pay_back(), 4)
        self.assert_pots(pots, 0, 0, {0: (50, 6)})

    def test_thirty_figures(self):
        pots = Pots()
        pots.grant(THIRTY_FIGURES)
        self.assertEqual(pots.take(0, 2 * THIRTY_FIGURES), (THIRTY_FIGURES, 0, THIRTY_FIGURES))
        self.assertEqual(pots.give(0, THIRTY_FIGURES + 1), (1, THIRTY_FIGURES))
        self.assert_pots(pots, THIRTY_FIGURES, 1, {0: (THIRTY_FIGURES - 1, 0)})
        self.assertEqual(pots.take(1, THIRTY_FIGURES), (1, THIRTY_FIGURES - 1, 0))
        self.assertEqual(pots.pay_back(), 1)
        self.assert_pots(pots, 0, 0, {0: (THIRTY_FIGURES - 1, 0), 1: (1, THIRTY_FIGURES - 1)})

    def test_two_have_nothing_in_common(self):
        one, other = Pots(), Pots()
        one.grant(10)
        one.take(0, 15)
        self.assert_pots(other, 0, 0, {})
        other.take(0, 7)
        other.give(0, 3)
        self.assert_pots(one, 0, 0, {0: (10, 5)})
        self.assert_pots(other, 3, 0, {0: (0, 4)})
        self.assert_pots(Pots(), 0, 0, {})


class PotsByChance(Case):
    def step(self, chance, pots, sums):
        """One step by chance; sums are what was granted, paid and paid back."""
        k = chance.choice((0, 1, 2, 59))
        amount = chance.choice((0, 1, 2, 5, 30, 10 ** 29))
        word = chance.choice(("grant", "take", "take", "give", "give", "give", "pay_back"))
        if word == "grant":
            pots.grant(amount)
            sums["granted"] += amount
        elif word == "take":
            told = pots.take(k, amount)
            self.assertEqual(sum(told), amount)
            self.assertGreaterEqual(min(told), 0)
            sums["paid"] += told[2]
        elif word == "give":
            amount = chance.choice((0, min(amount, sum(pots.took(k))), sum(pots.took(k))))
            told = pots.give(k, amount)
            self.assertEqual(sum(told), amount)
            self.assertGreaterEqual(min(told), 0)
        else:
            sums["back"] += pots.pay_back()

    def test_no_part_is_in_two_places(self):
        chance = random.Random(18)
        for turn in range(100):
            pots, sums = Pots(), {"granted": 0, "paid": 0, "back": 0}
            for place in range(60):
                self.step(chance, pots, sums)
                own, given = pots.left()
                took = [pots.took(k) for k in range(60)]
                self.assertEqual(sums["granted"], given + sum(one[0] for one in took))
                self.assertEqual(sums["paid"] - sums["back"], own + sum(one[1] for one in took))
                self.assertGreaterEqual(min([own, given] + [min(one) for one in took]), 0)
                self.assertLessEqual(sums["back"], sums["paid"])


if __name__ == "__main__":
    unittest.main()
