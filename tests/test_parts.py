"""Parts of rows, the misses in them, and the floor by parts against all lawful books of short rows."""

import copy
import random
import unittest

from castoff.books import missed_by
from castoff.parts import floor_by_parts, missed_in, parts_of
from castoff.rules import First, Oldest, Ranked, Rule, book_of
from castoff.stock import Stock
from castoff.turns import Hand
from castoff.ways import ways_of
from tests.helper import (
    NO_PLACES, assert_refused, book_from, cheapest_paid, drawn_case, lawful_books, long_rows, rules_for, short_rows,
    stock_of, wide_stock, widest_of, words,
)

# The rules of point 40.
FIVE = (Oldest, First, Hand, Rule, Ranked)


def plain_parts(asks, most):
    """Each part as the longest stretch from its start that has at most so many different things."""
    parts = []
    start = 0
    while start < len(asks):
        ends = [end for end in range(start + 1, len(asks) + 1) if len(set(asks[start:end])) <= most]
        parts.append((start, max(ends)))
        start = max(ends)
    return parts


class TestParts(unittest.TestCase):
    def parts(self, text, most):
        return parts_of(words(text), most)

    def test_no_asks(self):
        for most in (1, 2, 200, 10 ** 6):
            self.assertEqual(parts_of([], most), [])

    def test_one_ask(self):
        for most in (1, 2, 10 ** 6):
            self.assertEqual(parts_of(["a"], most), [(0, 1)])

    def test_by_hand(self):
        self.assertEqual(self.parts("a b a c a b b", 2), [(0, 3), (3, 5), (5, 7)])
        self.assertEqual(self.parts("a b c d", 2), [(0, 2), (2, 4)])
        self.assertEqual(self.parts("a b c d e", 2), [(0, 2), (2, 4), (4, 5)])
        self.assertEqual(self.parts("a a a b b a c", 2), [(0, 6), (6, 7)])
        self.assertEqual(self.parts("a b c a b c d a", 3), [(0, 6), (6, 8)])

    def test_most_one(self):
        self.assertEqual(self.parts("a a b b b a", 1), [(0, 2), (2, 5), (5, 6)])
        self.assertEqual(self.parts("a b a b", 1), [(0, 1), (1, 2), (2, 3), (3, 4)])
        self.assertEqual(self.parts("a a a a", 1), [(0, 4)])

    def test_just_most_different_things_and_one_more(self):
        for many in (1, 2, 3, 59):
            names = [f"t{number}" for number in range(many)]
            asks = names + names[::-1] + names
            self.assertEqual(parts_of(asks, many), [(0, 3 * many)])
            self.assertEqual(parts_of(asks, many + 1), [(0, 3 * many)])
            self.assertEqual(parts_of(asks + ["z"], many), [(0, 3 * many), (3 * many, 3 * many + 1)])
            self.assertEqual(parts_of(asks + ["z"], many + 1), [(0, 3 * many + 1)])

    def test_the_greatest_most(self):
        asks = wide_stock(60, lambda number: 1).names() * 3
        self.assertEqual(parts_of(asks, 60), [(0, 180)])
        self.assertEqual(parts_of(asks, 10 ** 6), [(0, 180)])
        self.assertEqual(parts_of(asks, 59), [(0, 59), (59, 118), (118, 177), (177, 180)])

    def test_no_most(self):
        for most in NO_PLACES:
            for asks in ([], ["a"], words("a b a c"), ["a"] * 200):
                assert_refused(self, "NoNumber", parts_of, asks, most)

    def test_against_the_words_of_the_document(self):
        for asks in short_rows("abcd", 5):
            for most in (1, 2, 3, 4):
                self.assertEqual(parts_of(asks, most), plain_parts(asks, most))
        for asks in long_rows(wide_stock(60, lambda number: 1).names(), 12):
            for most in (1, 2, 5, 30, 60):
                self.assertEqual(parts_of(asks, most), plain_parts(asks, most))

    def test_parts_lie_end_to_end(self):
        for asks in long_rows(wide_stock(20, lambda number: 1).names(), 12):
            for most in (1, 3, 7):
                parts = parts_of(asks, most)
                self.assertEqual([start for start, end in parts] + [len(asks)], [0] + [end for start, end in parts])
                for start, end in parts[:-1]:
                    self.assertEqual(len(set(asks[start:end])), most)
                    self.assertNotIn(asks[end], asks[start:end])
                self.assertTrue(1 <= len(set(asks[parts[-1][0]:])) <= most)

    def test_kinds_and_copies(self):
        asks = words("a b a c a b b")
        parts = parts_of(asks, 2)
        self.assertIs(type(parts), list)
        for part in parts:
            self.assertEqual([type(thing) for thing in (part,) + part], [tuple, int, int])
        parts.clear()
        self.assertEqual(parts_of(asks, 2), [(0, 3), (3, 5), (5, 7)])
        self.assertEqual(asks, words("a b a c a b b"))


class TestMissedIn(unittest.TestCase):
    def test_by_hand(self):
        book = book_from("a- b- a+ c-a c+ a-b")
        self.assertEqual(missed_in(book, [(0, 2), (2, 5), (5, 6)]), [2, 1, 1])
        self.assertEqual(missed_in(book, [(0, 6)]), [4])
        self.assertEqual(missed_in(book, [(1, 3), (2, 3), (3, 4), (4, 5)]), [1, 0, 1, 0])

    def test_no_stretches_and_no_rows(self):
        self.assertEqual(missed_in(book_from("a- b-"), []), [])
        self.assertEqual(missed_in([], []), [])
        self.assertEqual(missed_in([], [(0, 0)]), [0])

    def test_empty_stretches(self):
        book = book_from("a- b- a+")
        self.assertEqual(missed_in(book, [(0, 0), (1, 1), (2, 2), (3, 3)]), [0, 0, 0, 0])

    def test_stretches_that_overlap_or_come_in_another_order(self):
        book = book_from("a- b- a+ c-a c+ a-b")
        self.assertEqual(missed_in(book, [(3, 6), (0, 3), (0, 6), (2, 4), (0, 3)]), [2, 2, 4, 1, 2])

    def test_a_book_that_is_not_lawful(self):
        book = [("a", True, ["a", "a"]), ("z", False, ["q"]), ("a", False, []), ("a", False, [])]
        self.assertEqual(missed_in(book, [(0, 1), (0, 2), (1, 4), (0, 4)]), [0, 1, 3, 3])

    def test_the_parts_of_a_row_hold_all_misses(self):
        stock = stock_of("a b2 c3 d")
        for asks in short_rows("abcd", 5):
            for rule in rules_for(stock, 3, asks):
                book = book_of(rule, asks)
                self.assertEqual(sum(missed_in(book, parts_of(asks, 2))), missed_by(book))

    def test_what_is_handed_in_stays_as_it_was_and_answers_are_new(self):
        book = book_from("a- b- a+ c-a c+ a-b")
        parts = [(3, 6), (0, 3), (1, 1)]
        before = copy.deepcopy((book, parts))
        told = missed_in(book, parts)
        self.assertEqual([type(thing) for thing in [told] + told], [list, int, int, int])
        told.clear()
        self.assertEqual(missed_in(book, parts), [2, 2, 0])
        self.assertEqual((book, parts), before)


class TestFiveRules(unittest.TestCase):
    def double_misses(self, book, asks, places):
        """All stretches with at most as many different things as places in which a thing is missed twice."""
        found = []
        for start in range(len(asks)):
            seen, missed, twice = set(), set(), False
            for end in range(start + 1, len(asks) + 1):
                name, there, gone = book[end - 1]
                seen.add(name)
                if len(seen) > places:
                    break
                if not there:
                    twice = twice or name in missed
                    missed.add(name)
                if twice:
                    found.append((start, end))
        return found

    def assert_once(self, stock, asks, places):
        for kind in FIVE:
            book = book_of(kind(stock, places), asks)
            self.assertEqual(self.double_misses(book, asks, places), [], (kind, asks, places))
            parts = parts_of(asks, places)
            for (start, end), missed in zip(parts, missed_in(book, parts)):
                self.assertTrue(missed <= len(set(asks[start:end])))

    def test_short_rows(self):
        for asks in short_rows("abcd", 6):
            if asks[:1] in ([], ["a"]):
                for places in (1, 2, 3, 4):
                    self.assert_once(stock_of("d c b a"), asks, places)

    def test_long_rows(self):
        for many in (4, 9, 60):
            stock = wide_stock(many, lambda number: 1)
            for asks in long_rows(stock.names(), 9):
                for places in (1, 2, 3, 5, many - 1, 10 ** 6):
                    self.assert_once(stock, asks, places)

    def test_between_two_misses_there_are_more_different_things_than_places(self):
        stock = wide_stock(9, lambda number: 1)
        for asks in long_rows(stock.names(), 9):
            for places in (2, 4, 7):
                for kind in FIVE:
                    last = {}
                    for number, (name, there, gone) in enumerate(book_of(kind(stock, places), asks)):
                        if not there and name in last:
                            self.assertTrue(len(set(asks[last[name]:number + 1])) > places)
                        if not there:
                            last[name] = number

    def test_a_rule_of_another_sort_misses_twice(self):
        # The last that was put on goes: so the looking itself is seen to find something.
        class Newest(Rule):
            def choice(self, lying):
                return lying[-1]

        asks = words("a b c b c")
        book = book_of(Newest(stock_of("a b c"), 2), asks)
        self.assertEqual(book, book_from("a- b- c-b b-c c-b"))
        self.assertEqual(self.double_misses(book, asks, 2), [(1, 4), (1, 5), (2, 5)])


class TestFloorByParts(unittest.TestCase):
    def test_no_asks(self):
        for places, fewer in ((1, 1), (2, 1), (10 ** 6, 1), (10 ** 6, 10 ** 6)):
            self.assertEqual(floor_by_parts([], places, fewer), 0)

    def test_one_part(self):
        for places, fewer in ((2, 1), (2, 2), (10 ** 6, 1), (10 ** 6, 10 ** 6)):
            self.assertEqual(floor_by_parts(words("a b b a"), places, fewer), 1)
            self.assertEqual(floor_by_parts(["a"], places, fewer), 1)

    def test_by_hand(self):
        # Three parts of two things: a b a, c a, b b.
        asks = words("a b a c a b b")
        self.assertEqual(floor_by_parts(asks, 2, 2), 3)
        self.assertEqual(floor_by_parts(asks, 2, 1), 5)
        # One part of three things.
        self.assertEqual(floor_by_parts(asks, 3, 1), 1)
        # Five parts of one thing.
        self.assertEqual(floor_by_parts(words("a b a c a a"), 1, 1), 5)
        # Two parts of three things.
        self.assertEqual(floor_by_parts(words("a b c d"), 3, 3), 2)
        self.assertEqual(floor_by_parts(words("a b c d"), 3, 2), 3)
        self.assertEqual(floor_by_parts(words("a b c d"), 3, 1), 4)

    def test_places_equal_to_fewer(self):
        # Then it is the number of parts.
        for asks in short_rows("abcd", 5):
            for places in (1, 2, 3, 4):
                self.assertEqual(floor_by_parts(asks, places, places), len(plain_parts(asks, places)))

    def test_many_parts(self):
        names = wide_stock(60, lambda number: 1).names()
        self.assertEqual(floor_by_parts((names * 4)[:200], 50, 10), 1 + 3 * 41)
        self.assertEqual(floor_by_parts((names * 4)[:200], 1, 1), 200)

    def test_numbers_that_are_none(self):
        for asks in ([], ["a"], words("a b c d"), ["a"] * 200):
            for bad in NO_PLACES:
                for good in (1, 3, 10 ** 6):
                    assert_refused(self, "NoNumber", floor_by_parts, asks, bad, good)
                    assert_refused(self, "NoNumber", floor_by_parts, asks, good, bad)
                assert_refused(self, "NoNumber", floor_by_parts, asks, bad, bad)

    def test_fewer_greater_than_places(self):
        for asks in ([], ["a"], words("a b c d")):
            for places, fewer in ((1, 2), (3, 4), (1, 10 ** 6), (10 ** 6 - 1, 10 ** 6)):
                assert_refused(self, "NoNumber", floor_by_parts, asks, places, fewer)

    def test_no_lawful_book_of_short_rows_has_fewer_misses(self):
        for text, fewer in (("a b c", 1), ("a b c", 2), ("a b2 c", 2), ("a b2 c", 3), ("a2 b c3", 3), ("a2 b c3", 4)):
            stock = stock_of(text)
            for asks in short_rows("abc", 5):
                least = min(missed_by(book) for book in lawful_books(stock, asks, fewer))
                for places in (fewer, fewer + 1, fewer + 2, 9):
                    self.assertTrue(floor_by_parts(asks, places, fewer) <= least)

    def test_no_lawful_book_of_drawn_rows_has_fewer_misses(self):
        dice = random.Random(41)
        reached = 0
        for _ in range(250):
            drawn, asks = drawn_case(dice, 6, 30, dice.choice((1, 3)))
            stock = Stock([(name, 1, drawn.room_of(name)) for name in drawn.names()])
            for fewer in (widest_of(stock, asks), widest_of(stock, asks) + 2):
                least = cheapest_paid(stock, asks, fewer)
                self.assertEqual(ways_of(stock, asks, fewer)[0], least)
                floors = [floor_by_parts(asks, places, fewer) for places in range(fewer, 9)]
                self.assertTrue(max(floors) <= least)
                reached += max(floors) == least
        # Not a floor far below: in some rows a book has just so many misses.
        self.assertTrue(reached > 20)

    def test_from_the_second_ask_of_a_part_to_the_first_of_the_next(self):
        for text, fewer in (("a b c", 1), ("a b c", 2), ("a b2 c", 2), ("a2 b c2", 3)):
            stock = stock_of(text)
            for asks in short_rows("abc", 5):
                for places in (fewer, fewer + 1):
                    shifted = [(start + 1, end + 1) for start, end in parts_of(asks, places)[:-1]]
                    for book in lawful_books(stock, asks, fewer):
                        for missed in missed_in(book, shifted):
                            self.assertTrue(missed >= places - fewer + 1)

    def test_no_rule_has_fewer_misses(self):
        for stock in (wide_stock(9, lambda number: 1), wide_stock(9, lambda number: 1 + number % 3)):
            for asks in long_rows(stock.names(), 9):
                for fewer in (3, 5):
                    least = min(missed_by(book_of(rule, asks)) for rule in rules_for(stock, fewer, asks))
                    for places in range(fewer, 10):
                        self.assertTrue(floor_by_parts(asks, places, fewer) <= least)

    def test_the_same_again_and_its_kind(self):
        asks = words("a b a c a b b")
        for places, fewer in ((2, 1), (10 ** 6, 1)):
            told = floor_by_parts(asks, places, fewer)
            self.assertIs(type(told), int)
            self.assertEqual(floor_by_parts(asks, places, fewer), told)
            self.assertEqual(asks, words("a b a c a b b"))
        self.assertIs(type(floor_by_parts([], 2, 1)), int)


if __name__ == "__main__":
    unittest.main()
