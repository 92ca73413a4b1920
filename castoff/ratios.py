"""Whole numbers, and ratios of them in lowest terms."""

from castoff.errors import NoNumber


def is_whole(thing):
    # Python counts True and False among the ints; here they are truths.
    return isinstance(thing, int) and not isinstance(thing, bool)


def is_within(thing, least, most):
    return is_whole(thing) and least <= thing <= most


def divisor_of(one, other):
    greater = abs(one)
    lesser = abs(other)
    while lesser != 0:
        rest = greater % lesser
        greater = lesser
        lesser = rest
    return greater


def ratio_of(top, bottom):
    if bottom == 0:
        raise NoNumber("there is no ratio to 0")
    divisor = divisor_of(top, bottom)
    if bottom < 0:
        # A divisor below 0 moves the sign from the bottom to the top.
        divisor = 0 - divisor
    return (top // divisor, bottom // divisor)


def plus_ratio(one, other):
    return ratio_of(one[0] * other[1] + other[0] * one[1], one[1] * other[1])


def minus_ratio(one, other):
    return ratio_of(one[0] * other[1] - other[0] * one[1], one[1] * other[1])


def times_ratio(one, other):
    return ratio_of(one[0] * other[0], one[1] * other[1])


def under_ratio(one, other):
    # Bottoms are above 0, so crossing over keeps the order.
    return one[0] * other[1] < other[0] * one[1]
