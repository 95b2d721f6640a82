"""Exact fractions, far beyond the digits that a net comes to."""

import unittest
from fractions import Fraction

from currenthouse.ratio import divided, greatest_divisor, in_whole_numbers, lowest, plus_times, sum_of_products, times

GREAT = 3 ** 400
OTHER = 7 ** 250


class Ratio(unittest.TestCase):
    def same(self, found, exact):
        self.assertEqual(found, (exact.numerator, exact.denominator))

    def test_lowest(self):
        for top in (-12, -5, -1, 0, 1, 5, 12, GREAT * OTHER, -GREAT * OTHER):
            for bottom in (1, 5, 8, GREAT, OTHER ** 2):
                self.same(lowest(top, bottom), Fraction(top, bottom))

    def test_greatest_divisor(self):
        self.assertEqual(greatest_divisor(GREAT * 4, GREAT * 6), GREAT * 2)
        self.assertEqual(greatest_divisor(GREAT, OTHER), 1)
        self.assertEqual(greatest_divisor(0, 6), 6)

    def test_times_and_divided(self):
        for fraction in ((0, 1), (2, 3), (-2, 3), (GREAT, OTHER), (-GREAT, OTHER)):
            for amount in (1, 2, 3, 6, 10 ** 9, OTHER):
                self.same(times(amount, fraction), amount * Fraction(*fraction))
                self.same(times(-amount, fraction), -amount * Fraction(*fraction))
                self.same(divided(fraction, amount), Fraction(*fraction) / amount)
            self.same(times(0, fraction), Fraction(0))
            self.same(divided(fraction, 0), Fraction(0))

    def test_sums(self):
        self.same(plus_times((1, 6), 2, (1, 3)), Fraction(5, 6))
        self.same(plus_times((1, 6), -1, (1, 6)), Fraction(0))
        self.assertEqual(sum_of_products([]), (0, 1))
        pairs = [(5, (1, 6)), (-3, (GREAT, OTHER)), (0, (1, 7)), (2, (-OTHER, GREAT))]
        self.same(sum_of_products(pairs), sum(amount * Fraction(*fraction) for amount, fraction in pairs))

    def test_in_whole_numbers(self):
        self.assertEqual(in_whole_numbers([]), [])
        self.assertEqual(in_whole_numbers([(0, 1), (0, 1)]), [0, 0])
        self.assertEqual(in_whole_numbers([(1, 2), (1, 3), (5, 6), (0, 1), (2, 1)]), [3, 2, 5, 0, 12])
        self.assertEqual(in_whole_numbers([(1, GREAT), (1, OTHER)]), [OTHER, GREAT])


if __name__ == "__main__":
    unittest.main()
