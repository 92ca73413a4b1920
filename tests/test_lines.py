"""The lines of a desk as they are read, ahead of all that a desk does with them."""

import unittest

from castoff.lines import read_line
from castoff.nests import maker_of
from tests.helper import assert_refused


class TestReadLine(unittest.TestCase):
    def test_words_by_their_kinds(self):
        self.assertEqual(read_line("thing a1 3 0"), ("thing", ["a1", 3, 0]))
        self.assertEqual(read_line("run rows 12"), ("run", [maker_of("rows"), 12]))
        self.assertEqual(read_line("holds dues 1 2"), ("holds", [maker_of("dues"), 1, 2]))
        self.assertEqual(read_line("keep a 5"), ("keep", ["a", 5]))
        self.assertEqual(read_line("rest"), ("rest", []))

    def test_words_that_may_stand_more_than_once(self):
        self.assertEqual(read_line("ask b"), ("ask", ["b"]))
        self.assertEqual(read_line("ask b a b"), ("ask", ["b", "a", "b"]))
        self.assertEqual(read_line("tower 0"), ("tower", [0]))
        self.assertEqual(read_line("prompt 3 4 5 6 7 8 9 10"), ("prompt", [3, 4, 5, 6, 7, 8, 9, 10]))
        for line in ("ask", "tower", "prompt"):
            assert_refused(self, "NoLine", read_line, line)

    def test_a_word_that_stands_for_a_rule_is_no_other_word(self):
        self.assertEqual(read_line("ask oldest run ask"), ("ask", ["oldest", "run", "ask"]))
        self.assertEqual(read_line("thing thing 1 1"), ("thing", ["thing", 1, 1]))
        assert_refused(self, "NoRule", read_line, "run run 1")

    def test_what_is_given_is_new_each_time(self):
        read_line("ask a b")[1].append("c")
        read_line("tower 1")[1].append(2)
        self.assertEqual(read_line("ask a b"), ("ask", ["a", "b"]))
        self.assertEqual(read_line("tower 1"), ("tower", [1]))


if __name__ == "__main__":
    unittest.main()
