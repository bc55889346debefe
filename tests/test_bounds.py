"""The helpers of looksfar.bounds and looksfar.choices."""

import unittest

from looksfar.bounds import check_reach, is_number, product_of, read_number
from looksfar.choices import choices
from looksfar.errors import BadReach


class BoundsTest(unittest.TestCase):

    def test_numbers(self):
        for value in range(-2, 9):
            self.assertIs(is_number(value, 1, 5), 1 <= value <= 5)
        for value in (True, False, None, "1", (1,), [1], {1: 1}, 10 ** 5000, -10 ** 5000):
            self.assertIs(is_number(value, 0, 5), False)
        self.assertIs(is_number(0, 0, -1), False)

    def test_reaches(self):
        for reach in (1, 3, 5):
            self.assertIsNone(check_reach(reach, 1, 5))
        for reach in (0, 6, -1, True, None, "1", [1]):
            with self.assertRaises(BadReach):
                check_reach(reach, 1, 5)

    def test_words(self):
        for number in range(0, 130):
            self.assertEqual(read_number(str(number), 5, 60), number if 5 <= number <= 60 else None)
        self.assertEqual(read_number("0", 0, 9), 0)
        for word in ("", "00", "01", "007", "-1", "+1", " 1", "1 ", "1\n", "1.0", "1_0", "x", "\u0661", "\u00b9",
                     "9" * 5000):
            self.assertIsNone(read_number(word, 0, 60))

    def test_products(self):
        self.assertEqual(product_of(()), 1)
        self.assertEqual(product_of((7,)), 7)
        self.assertEqual(product_of([3, 4, 5]), 60)

    def test_choices(self):
        self.assertEqual(choices([]), [()])
        self.assertEqual(choices([(0, 2), [None]]), [(0, None), (2, None)])
        self.assertEqual(choices(((1, 0), (5, 7))), [(1, 5), (1, 7), (0, 5), (0, 7)])
        self.assertEqual(choices([(1, 0), ()]), [])


if __name__ == "__main__":
    unittest.main()
