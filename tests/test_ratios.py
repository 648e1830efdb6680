import math
import unittest
from fractions import Fraction

from hangmobile.errors import NoNumber
from hangmobile.ratios import fraction, minus, over, plus, times, under


def fibonacci_pair(figures):
    """Two neighbours of the row, for which a common divisor is sought the longest."""
    one, other = 1, 1
    while other < 10 ** (figures - 1):
        one, other = other, one + other
    return one, other


SMALL = list(range(-12, 13))
LARGE = [10 ** 999, 10 ** 1000 - 1, 2 ** 3000, 6 ** 1200, 7 ** 1100 * 2, *fibonacci_pair(1000)]
LARGE_BOTH_SIGNS = LARGE + [-number for number in LARGE]


def told(number):
    """A Fraction of Python's own in the form of point 4."""
    return (number.numerator, number.denominator)


SMALL_FRACTIONS = sorted({Fraction(top, bottom) for top in range(-5, 6) for bottom in range(1, 6)})
LARGE_FRACTIONS = [Fraction(top, bottom) for top in LARGE_BOTH_SIGNS for bottom in LARGE[:4] + [1, 3]]


class RatioTest(unittest.TestCase):
    def assert_is_fraction(self, value):
        self.assertIs(type(value), tuple)
        self.assertEqual(len(value), 2)
        self.assertIs(type(value[0]), int)
        self.assertIs(type(value[1]), int)
        self.assertGreaterEqual(value[1], 1)
        self.assertEqual(math.gcd(value[0], value[1]), 1)

    def assert_told(self, value, wanted):
        self.assert_is_fraction(value)
        self.assertEqual(value, told(wanted))


class Made(RatioTest):
    def test_written_out(self):
        self.assertEqual(fraction(3, 4), (3, 4))
        self.assertEqual(fraction(6, 8), (3, 4))
        self.assertEqual(fraction(8, 4), (2, 1))
        self.assertEqual(fraction(-6, 8), (-3, 4))
        self.assertEqual(fraction(6, -8), (-3, 4))
        self.assertEqual(fraction(-6, -8), (3, 4))
        self.assertEqual(fraction(5, -1), (-5, 1))
        self.assertEqual(fraction(1, 1), (1, 1))
        self.assertEqual(fraction(-1, -1), (1, 1))

    def test_small_of_both_signs(self):
        for top in SMALL:
            for bottom in SMALL:
                if bottom != 0:
                    self.assert_told(fraction(top, bottom), Fraction(top, bottom))

    def test_very_large_of_both_signs(self):
        for top in LARGE_BOTH_SIGNS:
            for bottom in LARGE_BOTH_SIGNS:
                self.assert_told(fraction(top, bottom), Fraction(top, bottom))

    def test_very_large_with_small(self):
        for large in LARGE_BOTH_SIGNS:
            for small in (-6, -1, 1, 2, 3, 7, 10):
                self.assert_told(fraction(large, small), Fraction(large, small))
                self.assert_told(fraction(small, large), Fraction(small, large))

    def test_nought_as_the_first(self):
        for bottom in [1, -1, 2, -2, 12, -12] + LARGE_BOTH_SIGNS:
            self.assertEqual(fraction(0, bottom), (0, 1))
            self.assert_is_fraction(fraction(0, bottom))

    def test_nought_as_the_second_is_refused(self):
        for top in SMALL + LARGE_BOTH_SIGNS:
            with self.assertRaises(NoNumber):
                fraction(top, 0)


class Reckoned(RatioTest):
    def check_pair(self, one, other):
        self.assert_told(plus(told(one), told(other)), one + other)
        self.assert_told(minus(told(one), told(other)), one - other)
        self.assert_told(times(told(one), told(other)), one * other)
        if other != 0:
            self.assert_told(over(told(one), told(other)), one / other)
        self.assertIs(under(told(one), told(other)), one < other)

    def test_written_out(self):
        self.assertEqual(plus((1, 6), (1, 3)), (1, 2))
        self.assertEqual(minus((1, 6), (1, 3)), (-1, 6))
        self.assertEqual(times((2, 3), (3, 4)), (1, 2))
        self.assertEqual(over((2, 3), (-4, 3)), (-1, 2))
        self.assertIs(under((1, 3), (1, 2)), True)
        self.assertIs(under((1, 2), (1, 3)), False)
        self.assertIs(under((-1, 2), (-1, 3)), True)
        self.assertIs(under((-1, 3), (-1, 2)), False)

    def test_small(self):
        for one in SMALL_FRACTIONS:
            for other in SMALL_FRACTIONS:
                self.check_pair(one, other)

    def test_very_large(self):
        for one in LARGE_FRACTIONS[::3]:
            for other in LARGE_FRACTIONS[1::5]:
                self.check_pair(one, other)

    def test_very_large_with_small(self):
        for one in LARGE_FRACTIONS:
            for other in (Fraction(-7, 2), Fraction(-1), Fraction(0), Fraction(1), Fraction(5, 3)):
                self.check_pair(one, other)
                if one != 0:
                    self.check_pair(other, one)

    def test_the_same_twice(self):
        for number in SMALL_FRACTIONS + LARGE_FRACTIONS:
            same = told(number)
            self.check_pair(number, number)
            self.assertEqual(minus(same, same), (0, 1))
            self.assertIs(under(same, same), False)
            if number != 0:
                self.assertEqual(over(same, same), (1, 1))

    def test_differing_in_the_sign_alone(self):
        for number in SMALL_FRACTIONS + LARGE_FRACTIONS:
            self.check_pair(number, -number)
            self.assertEqual(plus(told(number), told(-number)), (0, 1))
            self.assertIs(under(told(-number), told(number)), number > 0)
            if number != 0:
                self.assertEqual(over(told(number), told(-number)), (-1, 1))

    def test_neighbours_too_close_for_floats(self):
        one = (10 ** 999, 10 ** 999 + 1)
        other = (10 ** 999 + 1, 10 ** 999 + 2)
        self.assertIs(under(one, other), True)
        self.assertIs(under(other, one), False)

    def test_a_quotient_by_nought_is_refused(self):
        for number in SMALL_FRACTIONS + LARGE_FRACTIONS:
            with self.assertRaises(NoNumber):
                over(told(number), (0, 1))

    def test_nought_over_another_is_nought(self):
        for number in SMALL_FRACTIONS + LARGE_FRACTIONS:
            if number != 0:
                self.assertEqual(over((0, 1), told(number)), (0, 1))


if __name__ == "__main__":
    unittest.main()
