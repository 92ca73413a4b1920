import math
import random
import unittest
from fractions import Fraction

from castoff.ratios import (
    divisor_of, is_whole, is_within, minus_ratio, plus_ratio, ratio_of, times_ratio, under_ratio,
)
from tests.helper import assert_refused

GREAT = 10 ** 399 + 7
SMALL = (0, 1, -1, 2, -2, 3, -3, 4, 6, -6, 12, -18, 35)


def great_numbers():
    """Numbers of up to four hundred figures, of either sign, many with a common divisor."""
    chance = random.Random(6)
    common = chance.randrange(10 ** 198, 10 ** 199)
    numbers = [0, 10 ** 400 - 1, 1 - 10 ** 400, GREAT, -GREAT]
    for turn in range(12):
        numbers.append(common * chance.randrange(1, 10 ** 200) * chance.choice((1, -1)))
        numbers.append(chance.randrange(10 ** 399, 10 ** 400) * chance.choice((1, -1)))
    return numbers


def neighbours():
    """Two Fibonacci numbers of some four hundred figures: the longest way to a divisor."""
    one, other = 1, 1
    while other < 10 ** 399:
        one, other = other, one + other
    return one, other


def as_ratio(number):
    return (number.numerator, number.denominator)


class TestWhole(unittest.TestCase):
    def test_whole_numbers(self):
        for thing in (0, 1, -1, 10 ** 400, -10 ** 400):
            self.assertIs(is_whole(thing), True)

    def test_truths_are_no_whole_numbers(self):
        self.assertIs(is_whole(True), False)
        self.assertIs(is_whole(False), False)

    def test_things_of_other_kinds(self):
        for thing in (None, "", "1", 1.0, 0.0, [], [1], (), (1,), {}, {1: 1}, {1}, b"1", 1j, object(), int, len):
            self.assertIs(is_whole(thing), False, repr(thing))

    def test_what_is_asked_about_stays_as_it_was(self):
        thing = [1, [2]]
        is_whole(thing)
        self.assertEqual(thing, [1, [2]])

    def test_within_has_both_ends(self):
        for thing, answer in ((1, False), (2, True), (3, True), (4, True), (5, False), (-3, False)):
            self.assertIs(is_within(thing, 2, 4), answer)

    def test_within_takes_whole_numbers_alone(self):
        for thing in (True, False, None, "1", 1.0, [1], (1,), {}):
            self.assertIs(is_within(thing, 0, 2), False, repr(thing))


class TestDivisor(unittest.TestCase):
    def test_noughts(self):
        self.assertEqual(divisor_of(0, 0), 0)
        for number in (1, 7, GREAT):
            self.assertEqual(divisor_of(0, number), number)
            self.assertEqual(divisor_of(number, 0), number)
            self.assertEqual(divisor_of(0, -number), number)
            self.assertEqual(divisor_of(-number, 0), number)

    def test_some_by_hand(self):
        self.assertEqual(divisor_of(12, 18), 6)
        self.assertEqual(divisor_of(-12, 18), 6)
        self.assertEqual(divisor_of(12, -18), 6)
        self.assertEqual(divisor_of(-12, -18), 6)
        self.assertEqual(divisor_of(7, 7), 7)
        self.assertEqual(divisor_of(8, 9), 1)

    def test_all_small_pairs(self):
        for one in range(-30, 31):
            for other in range(-30, 31):
                self.assertEqual(divisor_of(one, other), math.gcd(one, other))

    def test_four_hundred_figures(self):
        numbers = great_numbers()
        for one in numbers:
            for other in numbers:
                self.assertEqual(divisor_of(one, other), math.gcd(one, other))

    def test_the_longest_way(self):
        one, other = neighbours()
        self.assertEqual(divisor_of(one, other), 1)
        self.assertEqual(divisor_of(-other, one), 1)


class TestRatio(unittest.TestCase):
    def test_some_by_hand(self):
        self.assertEqual(ratio_of(6, 4), (3, 2))
        self.assertEqual(ratio_of(-6, 4), (-3, 2))
        self.assertEqual(ratio_of(6, -4), (-3, 2))
        self.assertEqual(ratio_of(-6, -4), (3, 2))
        self.assertEqual(ratio_of(0, 5), (0, 1))
        self.assertEqual(ratio_of(0, -5), (0, 1))
        self.assertEqual(ratio_of(5, 1), (5, 1))
        self.assertEqual(ratio_of(5, -1), (-5, 1))

    def test_a_ratio_is_a_tuple_of_whole_numbers(self):
        answer = ratio_of(10, 5)
        self.assertIs(type(answer), tuple)
        self.assertEqual([type(part) for part in answer], [int, int])

    def test_to_nought_there_is_none(self):
        for top in (0, 1, -1, GREAT, -GREAT):
            assert_refused(self, "NoNumber", ratio_of, top, 0)

    def test_against_fractions(self):
        for numbers in (range(-13, 14), great_numbers()):
            for top in numbers:
                for bottom in numbers:
                    if bottom != 0:
                        self.assertEqual(ratio_of(top, bottom), as_ratio(Fraction(top, bottom)))

    def test_again_the_same(self):
        self.assertEqual(ratio_of(GREAT, -21), ratio_of(GREAT, -21))


class TestReckoning(unittest.TestCase):
    def check_pair(self, one, other):
        left = as_ratio(one)
        right = as_ratio(other)
        self.assertEqual(plus_ratio(left, right), as_ratio(one + other))
        self.assertEqual(minus_ratio(left, right), as_ratio(one - other))
        self.assertEqual(times_ratio(left, right), as_ratio(one * other))
        self.assertIs(under_ratio(left, right), one < other)

    def test_some_by_hand(self):
        self.assertEqual(plus_ratio((1, 2), (1, 3)), (5, 6))
        self.assertEqual(plus_ratio((1, 2), (-1, 2)), (0, 1))
        self.assertEqual(minus_ratio((1, 2), (1, 3)), (1, 6))
        self.assertEqual(minus_ratio((1, 3), (1, 2)), (-1, 6))
        self.assertEqual(minus_ratio((0, 1), (3, 4)), (-3, 4))
        self.assertEqual(times_ratio((2, 3), (3, 4)), (1, 2))
        self.assertEqual(times_ratio((-2, 3), (-3, 2)), (1, 1))
        self.assertEqual(times_ratio((0, 1), (-3, 2)), (0, 1))

    def test_under_is_less_alone(self):
        self.assertIs(under_ratio((1, 3), (1, 2)), True)
        self.assertIs(under_ratio((1, 2), (1, 3)), False)
        self.assertIs(under_ratio((1, 2), (1, 2)), False)
        self.assertIs(under_ratio((-1, 2), (-1, 3)), True)
        self.assertIs(under_ratio((-1, 2), (0, 1)), True)
        self.assertIs(under_ratio((0, 1), (0, 1)), False)

    def test_small_ones_against_fractions(self):
        ratios = [Fraction(top, bottom) for top in SMALL for bottom in SMALL if bottom > 0]
        for one in ratios:
            for other in ratios:
                self.check_pair(one, other)

    def test_great_ones_against_fractions(self):
        numbers = great_numbers()[:14]
        ratios = [Fraction(top, bottom) for top in numbers for bottom in numbers[3:6]]
        for one in ratios:
            for other in ratios:
                self.check_pair(one, other)

    def test_great_ones_that_lie_close(self):
        self.assertIs(under_ratio((GREAT - 1, GREAT), (GREAT, GREAT + 1)), True)
        self.assertIs(under_ratio((GREAT, GREAT + 1), (GREAT - 1, GREAT)), False)


if __name__ == "__main__":
    unittest.main()
