"""Whole numbers at many places, and the sums of the first of them."""

from castoff.errors import NoNumber
from castoff.ratios import is_within

MOST_SUMS = 200


class Sums:
    def __init__(self, many):
        if not is_within(many, 0, MOST_SUMS):
            raise NoNumber(f"sums are kept at a whole number from 0 to {MOST_SUMS} of places")
        self.numbers = [0 for place in range(many)]

    def add(self, at, by):
        if not is_within(at, 0, len(self.numbers) - 1):
            raise NoNumber("there is no such place")
        self.numbers[at] += by

    def upto(self, at):
        if not is_within(at, 0, len(self.numbers)):
            raise NoNumber("there are not so many places")
        return sum(self.numbers[:at])
