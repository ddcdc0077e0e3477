"""What a whole number is (point 2)."""

import unittest

from paidspan.wholes import is_whole, is_whole_between

SIXTY_FIGURES = 10 ** 59
MANY_FIGURES = 10 ** 5000


class Wholes(unittest.TestCase):
    def test_numbers_of_any_size(self):
        for value in (0, 1, -1, SIXTY_FIGURES, -SIXTY_FIGURES, MANY_FIGURES, -MANY_FIGURES):
            self.assertIs(is_whole(value), True)

    def test_truths_and_texts_are_none(self):
        for value in (True, False, "", "0", "1", None):
            self.assertIs(is_whole(value), False, value)
            self.assertIs(is_whole_between(value, 0, 1), False, value)

    def test_between_with_both_ends(self):
        for value in (3, 4, 5):
            self.assertIs(is_whole_between(value, 3, 5), True, value)
        for value in (2, 6, -4, SIXTY_FIGURES, -SIXTY_FIGURES, MANY_FIGURES, -MANY_FIGURES):
            self.assertIs(is_whole_between(value, 3, 5), False)


if __name__ == "__main__":
    unittest.main()
