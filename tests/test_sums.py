import random
import unittest

from castoff.sums import Sums
from tests.helper import assert_refused

# Whatever is no whole number, of whatever kind it is.
OTHER_KINDS = (True, False, None, "0", "1", "", 0.0, 1.0, [], [0], [1], (), (0,), (1,), {}, {0: 0}, object())
GREAT = 10 ** 40 - 1


def all_sums(sums, many):
    return [sums.upto(count) for count in range(many + 1)]


class TestMaking(unittest.TestCase):
    def test_all_begin_with_nought(self):
        for many in (0, 1, 2, 7, 199, 200):
            self.assertEqual(all_sums(Sums(many), many), [0] * (many + 1))

    def test_no_number_of_places(self):
        for many in (-1, -200, 201, 202, 10 ** 6, 10 ** 40, -10 ** 40) + OTHER_KINDS:
            assert_refused(self, "NoNumber", Sums, many)


class TestSums(unittest.TestCase):
    def test_the_first_so_many(self):
        sums = Sums(4)
        sums.add(1, 5)
        self.assertEqual(all_sums(sums, 4), [0, 0, 5, 5, 5])
        sums.add(3, 7)
        sums.add(0, -2)
        self.assertEqual(all_sums(sums, 4), [0, -2, 3, 3, 10])

    def test_what_is_put_to_one_place_again_is_added(self):
        sums = Sums(3)
        for by in (4, 0, -9, 4):
            sums.add(2, by)
        self.assertEqual(all_sums(sums, 3), [0, 0, 0, -1])
        sums.add(2, 1)
        self.assertEqual(all_sums(sums, 3), [0, 0, 0, 0])

    def test_each_place_by_itself(self):
        for many in (1, 2, 3, 8, 200):
            for at in range(many):
                sums = Sums(many)
                sums.add(at, 3)
                self.assertEqual(all_sums(sums, many), [0] * (at + 1) + [3] * (many - at))

    def test_numbers_of_forty_figures(self):
        for many in (2, 200):
            for by in (GREAT, 0 - GREAT):
                sums = Sums(many)
                sums.add(0, by)
                sums.add(many - 1, by)
                self.assertEqual(all_sums(sums, many), [0] + [by] * (many - 1) + [2 * by])
                sums.add(0, 0 - by)
                self.assertEqual(all_sums(sums, many), [0] * many + [by])
                sums.add(many - 1, 1 - by)
                self.assertEqual(all_sums(sums, many), [0] * many + [1])

    def test_two_hundred_great_numbers(self):
        sums = Sums(200)
        for at in range(200):
            sums.add(at, GREAT - at)
        self.assertEqual(sums.upto(200), 200 * GREAT - 199 * 100)
        self.assertEqual(sums.upto(199), 199 * GREAT - 99 * 199)

    def test_against_a_plain_list(self):
        dice = random.Random(26)
        for many in (1, 2, 3, 5, 64, 127, 128, 200):
            sums, plain = Sums(many), [0] * many
            for _ in range(60):
                at, by = dice.randrange(many), dice.choice((1, -1, 10 ** 39)) * dice.randint(-9, 9)
                sums.add(at, by)
                plain[at] += by
                count = dice.randint(0, many)
                self.assertEqual(sums.upto(count), sum(plain[:count]))
            self.assertEqual(all_sums(sums, many), [sum(plain[:count]) for count in range(many + 1)])

    def test_the_same_again_and_a_whole_number(self):
        sums = Sums(3)
        sums.add(1, 5)
        for count in (0, 1, 2, 3):
            self.assertIs(type(sums.upto(count)), int)
            self.assertEqual(sums.upto(count), sums.upto(count))

    def test_two_side_by_side(self):
        one, other = Sums(3), Sums(3)
        one.add(0, 5)
        other.add(2, 7)
        third = Sums(3)
        self.assertEqual(all_sums(one, 3), [0, 5, 5, 5])
        self.assertEqual(all_sums(other, 3), [0, 0, 0, 7])
        self.assertEqual(all_sums(third, 3), [0, 0, 0, 0])


class TestRefused(unittest.TestCase):
    def filled(self, many):
        sums = Sums(many)
        for at in range(many):
            sums.add(at, 10 + at)
        return sums, all_sums(sums, many)

    def test_no_place(self):
        for many in (0, 1, 2, 3, 200):
            sums, before = self.filled(many)
            for at in (-1, -2, 0 - many - 1, many, many + 1, 200, 10 ** 40, -10 ** 40) + OTHER_KINDS:
                assert_refused(self, "NoNumber", sums.add, at, 3)
                self.assertEqual(all_sums(sums, many), before)

    def test_no_count(self):
        for many in (0, 1, 2, 3, 200):
            sums, before = self.filled(many)
            for count in (-1, -2, 0 - many - 1, many + 1, many + 2, 201, 10 ** 40, -10 ** 40) + OTHER_KINDS:
                assert_refused(self, "NoNumber", sums.upto, count)
            self.assertEqual(all_sums(sums, many), before)

    def test_of_no_places(self):
        sums = Sums(0)
        self.assertEqual(sums.upto(0), 0)
        assert_refused(self, "NoNumber", sums.add, 0, 1)
        assert_refused(self, "NoNumber", sums.upto, 1)
        self.assertEqual(sums.upto(0), 0)

    def test_the_last_place_and_the_last_count_are_none_too_many(self):
        for many in (1, 2, 200):
            sums = Sums(many)
            sums.add(many - 1, 4)
            self.assertEqual((sums.upto(many - 1), sums.upto(many)), (0, 4))


if __name__ == "__main__":
    unittest.main()
