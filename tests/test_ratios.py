"""Fractions, against Python's own and against what the words say."""

import copy
import math
import unittest
from fractions import Fraction

from nonebetter.errors import NoNumber
from nonebetter.ratios import below, divisor, minus, over, plus, ratio, times

SMALL = range(-13, 14)
# Numbers of sixty figures; the last two have a great part in common.
LONG = (10 ** 59 + 7, 3 ** 125, 2 ** 197, 2 ** 100 * 3 ** 60 * 7, 2 ** 90 * 3 ** 67 * 5)
FRACTIONS = sorted({Fraction(top, bottom) for top in range(-6, 7) for bottom in range(1, 7)})
LONG_FRACTIONS = [
    Fraction(sign * top, bottom) for sign in (1, -1) for top in LONG for bottom in LONG + (1,)
] + [Fraction(0), Fraction(1), Fraction(-5, 3)]


def told(fraction):
    return (fraction.numerator, fraction.denominator)


class Case(unittest.TestCase):
    def assert_whole(self, number):
        self.assertIs(type(number), int)

    def assert_fraction(self, value):
        self.assertIs(type(value), tuple)
        self.assertEqual(len(value), 2)
        self.assert_whole(value[0])
        self.assert_whole(value[1])
        self.assertGreaterEqual(value[1], 1)
        self.assertEqual(math.gcd(value[0], value[1]), 1)


class Divisor(Case):
    def test_of_nought_and_nought(self):
        self.assertEqual(divisor(0, 0), 0)
        self.assert_whole(divisor(0, 0))

    def test_of_nought_and_another(self):
        for number in (1, 2, 12, 10 ** 60, -1, -2, -12, -(10 ** 60)):
            self.assertEqual(divisor(0, number), abs(number))
            self.assertEqual(divisor(number, 0), abs(number))

    def test_written_out(self):
        self.assertEqual(divisor(12, 18), 6)
        self.assertEqual(divisor(18, 12), 6)
        self.assertEqual(divisor(7, 5), 1)
        self.assertEqual(divisor(4, 12), 4)
        self.assertEqual(divisor(9, 9), 9)

    def test_below_nought(self):
        self.assertEqual(divisor(-12, 18), 6)
        self.assertEqual(divisor(12, -18), 6)
        self.assertEqual(divisor(-12, -18), 6)

    def test_it_is_the_greatest_that_divides_both(self):
        for one in SMALL:
            for other in SMALL:
                if (one, other) != (0, 0):
                    both = [d for d in range(1, 14) if one % d == 0 and other % d == 0]
                    self.assertEqual(divisor(one, other), max(both), (one, other))

    def test_never_below_nought_and_alike_in_either_order(self):
        for one in SMALL:
            for other in SMALL:
                self.assertGreaterEqual(divisor(one, other), 0)
                self.assertEqual(divisor(one, other), divisor(other, one))

    def test_sixty_figures(self):
        for one in LONG:
            self.assertEqual(len(str(one)), 60)
            for other in LONG:
                for signs in ((1, 1), (1, -1), (-1, 1), (-1, -1)):
                    value = divisor(signs[0] * one, signs[1] * other)
                    self.assertEqual(value, math.gcd(one, other))
                    self.assert_whole(value)
        self.assertEqual(divisor(LONG[3], LONG[4]), 2 ** 90 * 3 ** 60)


class Ratio(Case):
    def test_lowest_terms(self):
        self.assertEqual(ratio(6, 4), (3, 2))
        self.assertEqual(ratio(3, 2), (3, 2))
        self.assertEqual(ratio(4, 6), (2, 3))
        self.assertEqual(ratio(12, 4), (3, 1))
        self.assertEqual(ratio(5, 5), (1, 1))
        self.assertEqual(ratio(7, 1), (7, 1))

    def test_signs(self):
        self.assertEqual(ratio(-6, 4), (-3, 2))
        self.assertEqual(ratio(6, -4), (-3, 2))
        self.assertEqual(ratio(-6, -4), (3, 2))
        self.assertEqual(ratio(1, -1), (-1, 1))
        self.assertEqual(ratio(-1, -7), (1, 7))

    def test_top_of_nought(self):
        for bottom in (1, 2, 60, -1, -2, -60, 10 ** 60, -(10 ** 60)):
            self.assertEqual(ratio(0, bottom), (0, 1))

    def test_bottom_of_nought_is_refused(self):
        for top in (0, 1, -1, 12, -12, 10 ** 60):
            with self.assertRaises(NoNumber):
                ratio(top, 0)

    def test_small_ones(self):
        for top in SMALL:
            for bottom in SMALL:
                if bottom != 0:
                    self.assert_fraction(ratio(top, bottom))
                    self.assertEqual(ratio(top, bottom), told(Fraction(top, bottom)))

    def test_sixty_figures(self):
        for top in LONG:
            for bottom in LONG:
                for signs in ((1, 1), (1, -1), (-1, 1), (-1, -1)):
                    value = ratio(signs[0] * top, signs[1] * bottom)
                    self.assert_fraction(value)
                    self.assertEqual(value, told(Fraction(signs[0] * top, signs[1] * bottom)))


class Reckoning(Case):
    def assert_all_like(self, fractions):
        for one in fractions:
            for other in fractions:
                self.assert_one_like(plus, one, other, one + other)
                self.assert_one_like(minus, one, other, one - other)
                self.assert_one_like(times, one, other, one * other)
                if other != 0:
                    self.assert_one_like(over, one, other, one / other)

    def assert_one_like(self, reckon, one, other, asked):
        value = reckon(told(one), told(other))
        self.assert_fraction(value)
        self.assertEqual(value, told(asked), (reckon, one, other))

    def test_written_out(self):
        self.assertEqual(plus((1, 2), (1, 3)), (5, 6))
        self.assertEqual(plus((1, 6), (1, 3)), (1, 2))
        self.assertEqual(plus((1, 2), (-1, 2)), (0, 1))
        self.assertEqual(minus((1, 2), (1, 3)), (1, 6))
        self.assertEqual(minus((1, 3), (1, 2)), (-1, 6))
        self.assertEqual(minus((3, 4), (1, 4)), (1, 2))
        self.assertEqual(times((2, 3), (3, 4)), (1, 2))
        self.assertEqual(times((-2, 3), (-3, 4)), (1, 2))
        self.assertEqual(over((1, 2), (3, 4)), (2, 3))
        self.assertEqual(over((3, 4), (1, 2)), (3, 2))
        self.assertEqual(over((1, 2), (-3, 4)), (-2, 3))
        self.assertEqual(over((-1, 2), (-3, 4)), (2, 3))

    def test_nought(self):
        for one in ((0, 1), (1, 1), (-1, 1), (2, 7), (-9, 4)):
            self.assertEqual(plus(one, (0, 1)), one)
            self.assertEqual(plus((0, 1), one), one)
            self.assertEqual(minus(one, (0, 1)), one)
            self.assertEqual(minus((0, 1), one), (-one[0], one[1]))
            self.assertEqual(minus(one, one), (0, 1))
            self.assertEqual(times(one, (0, 1)), (0, 1))
            self.assertEqual(times((0, 1), one), (0, 1))
        self.assertEqual(over((0, 1), (-2, 7)), (0, 1))

    def test_over_by_nought_is_refused(self):
        for one in ((0, 1), (1, 1), (-1, 1), (2, 7), (-9, 4), (10 ** 60, 7)):
            with self.assertRaises(NoNumber):
                over(one, (0, 1))

    def test_small_ones(self):
        self.assert_all_like(FRACTIONS)

    def test_sixty_figures(self):
        self.assert_all_like(LONG_FRACTIONS)


class Below(Case):
    def test_written_out(self):
        self.assertIs(below((1, 3), (1, 2)), True)
        self.assertIs(below((1, 2), (1, 3)), False)
        self.assertIs(below((0, 1), (1, 10 ** 60)), True)

    def test_like_ones(self):
        for one in FRACTIONS + LONG_FRACTIONS:
            self.assertIs(below(told(one), told(one)), False)

    def test_below_nought(self):
        self.assertIs(below((-1, 2), (-1, 3)), True)
        self.assertIs(below((-1, 3), (-1, 2)), False)
        self.assertIs(below((-5, 2), (1, 7)), True)
        self.assertIs(below((1, 7), (-5, 2)), False)
        self.assertIs(below((-1, 10 ** 60), (0, 1)), True)
        self.assertIs(below((0, 1), (-1, 10 ** 60)), False)

    def test_all(self):
        for fractions in (FRACTIONS, LONG_FRACTIONS):
            for one in fractions:
                for other in fractions:
                    self.assertIs(below(told(one), told(other)), one < other, (one, other))

    def test_sixty_figures_that_lie_close(self):
        top = 10 ** 59
        self.assertIs(below((top, top + 1), (top + 1, top + 2)), True)
        self.assertIs(below((top + 1, top + 2), (top, top + 1)), False)


class HandedIn(Case):
    def test_what_was_handed_in_is_the_same(self):
        one = (-3, 4)
        other = (5, 6)
        ahead = copy.deepcopy((one, other))
        for deed in (plus, minus, times, over, below):
            first = deed(one, other)
            self.assertEqual((one, other), ahead)
            self.assertEqual(deed(one, other), first)


if __name__ == "__main__":
    unittest.main()
