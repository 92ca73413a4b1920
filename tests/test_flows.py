"""The strands along a line against all choices of jumps, and heights as the proof that none gain more."""

import random
import unittest

from castoff.flows import flow_of
from tests.helper import some_of


def fits(points, chosen, most):
    """Whether no step is jumped over more often than there are strands."""
    return all(sum(start <= step < end for start, end, _ in chosen) <= most for step in range(points - 1))


def greatest_gain(points, jumps, most):
    return max(sum(gain for _, _, gain in chosen) for chosen in some_of(jumps) if fits(points, chosen, most))


def drawn_jumps(dice, points, many):
    jumps = []
    for _ in range(many):
        start, end = sorted(dice.choices(range(points), k=2))
        jumps.append((start, end, dice.choice((0, 1, 5, 5, dice.randint(0, 40), 10 ** 30))))
    return jumps


class TestFlow(unittest.TestCase):
    def assert_best(self, points, jumps, most, taken, heights):
        """What is taken fits, and the heights tell for each step what one strand more over it would be worth."""
        chosen = [jump for jump, used in zip(jumps, taken) if used]
        self.assertEqual((len(taken), len(heights)), (len(jumps), points))
        self.assertTrue(fits(points, chosen, most))
        worths = [high - low for low, high in zip(heights, heights[1:])]
        self.assertTrue(all(worth >= 0 for worth in worths))
        # No choice gains more than all strands are worth, and the jumps above what they take of that.
        above = sum(max(0, gain - sum(worths[start:end])) for start, end, gain in jumps)
        self.assertEqual(sum(gain for _, _, gain in chosen), most * sum(worths) + above)

    def test_no_jumps_and_one_point(self):
        self.assertEqual(flow_of(1, [], 0), ([], [0]))
        self.assertEqual(flow_of(1, [], 5), ([], [0]))
        self.assertEqual(flow_of(4, [], 2), ([], [0, 0, 0, 0]))

    def test_a_jump_over_no_step_is_always_taken(self):
        for most in (0, 1, 2):
            self.assertEqual(flow_of(3, [(1, 1, 7), (2, 2, 0)], most), ([True, True], [0, 0, 0]))

    def test_no_strands_take_no_jump(self):
        self.assertEqual(flow_of(3, [(0, 1, 7), (0, 2, 9)], 0), ([False, False], [0, 7, 9]))

    def test_one_strand_takes_the_better_way(self):
        self.assertEqual(flow_of(3, [(0, 1, 4), (1, 2, 4), (0, 2, 7)], 1)[0], [True, True, False])
        self.assertEqual(flow_of(3, [(0, 1, 4), (1, 2, 4), (0, 2, 9)], 1)[0], [False, False, True])

    def test_a_second_strand_sends_the_first_back(self):
        # Alone, one takes 4, 2 and 6; two of them take 4 and 5, and 3 and 6, and leave the 2.
        jumps = [(0, 1, 4), (1, 3, 5), (1, 2, 2), (2, 3, 6), (0, 2, 3)]
        self.assertEqual(flow_of(4, jumps, 1)[0], [True, False, True, True, False])
        self.assertEqual(flow_of(4, jumps, 2)[0], [True, True, False, True, True])
        self.assertEqual(flow_of(4, jumps, 3)[0], [True] * 5)

    def test_more_strands_than_are_of_use(self):
        for most in (2, 3, 10 ** 6):
            self.assertEqual(flow_of(3, [(0, 2, 4), (1, 2, 4)], most), ([True, True], [0, 0, 0]))

    def test_against_all_choices(self):
        dice = random.Random(34)
        for _ in range(600):
            points = dice.randint(1, 7)
            jumps = drawn_jumps(dice, points, dice.randint(0, 8))
            for most in (0, 1, 2, 3, 9):
                taken, heights = flow_of(points, jumps, most)
                self.assert_best(points, jumps, most, taken, heights)
                gain = sum(gain for (_, _, gain), used in zip(jumps, taken) if used)
                self.assertEqual(gain, greatest_gain(points, jumps, most))

    def test_long_lines(self):
        dice = random.Random(35)
        for _ in range(12):
            jumps = drawn_jumps(dice, 41, 40)
            for most in (1, 3, 8, 10 ** 6):
                self.assert_best(41, jumps, most, *flow_of(41, jumps, most))

    def test_what_is_handed_in_stays_as_it_was_and_answers_are_new(self):
        jumps = [(0, 2, 5), (1, 3, 5), (1, 1, 2)]
        told = flow_of(4, jumps, 1)
        again = flow_of(4, jumps, 1)
        self.assertEqual(told, again)
        told[0].clear()
        told[1].clear()
        self.assertEqual(flow_of(4, jumps, 1), again)
        self.assertEqual(jumps, [(0, 2, 5), (1, 3, 5), (1, 1, 2)])


if __name__ == "__main__":
    unittest.main()
