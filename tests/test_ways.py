"""The table of all ways against all lawful books of short rows and against a second telling of longer ones."""

import copy
import random
import unittest

from castoff.best import best_of
from castoff.books import lying_after, paid_by
from castoff.papers import floor_of
from castoff.rules import Farthest, book_of
from castoff.stock import Stock
from castoff.ways import ways_of
from tests.helper import (
    NO_PLACES, assert_refused, book_from, drawn_case, lawful_books, rules_for, short_rows, some_of, stock_of,
    ways_by_sets, widest_of, words,
)

GREAT = 10 ** 30


def numbered(asks):
    """The different things of a row, in the order in which they are first asked."""
    return list(dict.fromkeys(asks))


def set_number(names, lying):
    return sum(2 ** names.index(name) for name in lying)


def table_by_books(stock, asks, places):
    """The table by going through all lawful books, as the document says what an entry is."""
    names = numbered(asks)
    table = [[None] * 2 ** len(names) for _ in asks]
    for book in lawful_books(stock, asks, places):
        for number, lying in enumerate(lying_after(stock, asks, places, book)):
            paid = paid_by(stock, book[:number + 1])
            at = set_number(names, lying)
            if table[number][at] is None or paid < table[number][at]:
                table[number][at] = paid
    return table


def table_by_sets(stock, asks, places):
    """The table by sets of names, carried forward from all that may lie there to all that may be left of it."""
    names = numbered(asks)
    table = []
    for ways in ways_by_sets(stock, asks, places):
        table.append([None] * 2 ** len(names))
        for lying, paid in ways.items():
            table[-1][set_number(names, lying)] = paid
    return table


def may_lie(stock, asks, places, lying):
    """Whether just these things can lie there behind the last ask: all kept from their last asks on."""
    if asks[-1] not in lying or not set(lying) <= set(asks):
        return False
    for number, name in enumerate(asks):
        beside = {other for other in lying if other not in asks[number + 1:]} | {name}
        if sum(map(stock.room_of, beside)) > places:
            return False
    return True


class WaysCase(unittest.TestCase):
    def assert_ways(self, stock, asks, places, table):
        """The table is the told one, and the book is lawful and pays just its least last entry; this is given back."""
        told = ways_of(stock, asks, places)
        paid, book, entries = told
        self.assertEqual([type(part) for part in (told,) + told], [tuple, int, list, list])
        self.assertEqual(entries, table, (asks, places))
        self.assertEqual(len(lying_after(stock, asks, places, book)), len(asks))
        self.assertEqual(paid_by(stock, book), paid)
        self.assertEqual(paid, min(entry for entry in table[-1] if entry is not None) if table else 0)
        for row in book:
            self.assertEqual([type(part) for part in (row,) + row], [tuple, str, bool, list])
        return paid


class TestByHand(WaysCase):
    def test_no_asks(self):
        for stock in (Stock([]), stock_of("a b2 c3")):
            for places in (1, 3, 10 ** 6):
                self.assertEqual(ways_of(stock, [], places), (0, [], []))

    def test_one_ask(self):
        for places in (2, 3, 10 ** 6):
            self.assertEqual(ways_of(stock_of("a b2"), ["b"], places), (10, book_from("b-"), [[None, 10]]))

    def test_one_thing_again_and_again(self):
        told = ways_of(stock_of("a b2"), ["b"] * 30, 2)
        self.assertEqual(told, (10, [("b", False, [])] + [("b", True, [])] * 29, [[None, 10]] * 30))

    def test_two_things(self):
        stock = stock_of("a b2")
        table = [[None, 1, None, None], [None, None, 11, 11]]
        self.assertEqual(self.assert_ways(stock, words("a b"), 3, table), 11)
        # There is no room for both, so the set of both has no way.
        self.assertEqual(ways_of(stock, words("a b"), 2), (11, book_from("a- b-a"), [
            [None, 1, None, None], [None, None, 11, None],
        ]))

    def test_things_are_numbered_as_they_are_first_asked(self):
        stock = stock_of("a b2")
        table = [[None, 10, None, None], [None, None, 11, 11]]
        self.assertEqual(self.assert_ways(stock, words("b a"), 3, table), 11)

    def test_a_thing_is_kept_or_paid_again(self):
        # Rooms 1, 2 and 1 on 3 places: never all three. Where b stayed, a is paid again, where a stayed, b.
        no = None
        table = [
            [no, 1, no, no, no, no, no, no],
            [no, no, 11, 11, no, no, no, no],
            [no, no, no, no, 111, 111, 111, no],
            [no, 111, no, 112, no, 111, no, no],
            [no, no, 112, 112, no, no, 121, no],
        ]
        self.assertEqual(self.assert_ways(stock_of("a b2 c"), words("a b c a b"), 3, table), 112)

    def test_what_is_cast_off_at_a_hit(self):
        # Behind the second a the sets with a alone come of casting off at a hit.
        table = [[None, 1, None, None], [None, None, 11, 11], [None, 11, None, 11]]
        self.assertEqual(self.assert_ways(stock_of("a b"), words("a b a"), 2, table), 11)
        table = [[None, 1, None, None], [None, None, 11, None], [None, 12, None, None]]
        self.assertEqual(self.assert_ways(stock_of("a b"), words("a b a"), 1, table), 12)

    def test_great_costs_and_costs_of_nought(self):
        stock = Stock([("a", GREAT, 1), ("b", 0, 1), ("c", GREAT, 1000)])
        table = [[None, GREAT, None, None], [None, None, GREAT, GREAT], [None, GREAT, None, GREAT]]
        self.assertEqual(self.assert_ways(stock, words("a b a"), 1000, table), GREAT)
        self.assertEqual(ways_of(stock, words("b b b"), 1), (0, book_from("b- b+ b+"), [[None, 0]] * 3))
        self.assertEqual(ways_of(stock, words("a c") * 15, 1000)[0], 30 * GREAT)
        self.assertEqual(ways_of(stock, words("a c") * 15, 1001)[0], 2 * GREAT)


class TestTable(WaysCase):
    def test_against_all_lawful_books(self):
        for text, places in (
            ("a b c", 1), ("c b a", 2), ("a b c", 3), ("a b2 c", 2), ("a b2 c3", 3), ("a2 b c2", 4), ("a b2 c3", 6),
        ):
            stock = stock_of(text)
            for asks in short_rows("abc", 4):
                self.assert_ways(stock, asks, places, table_by_books(stock, asks, places))

    def test_against_sets_of_names(self):
        dice = random.Random(35)
        for _ in range(250):
            stock, asks = drawn_case(dice, 6, 30, dice.choice((1, 3, 5)))
            widest = widest_of(stock, asks)
            for places in (widest, widest + 1, widest + dice.randint(2, 9), 10 ** 6):
                self.assert_ways(stock, asks, places, table_by_sets(stock, asks, places))

    def test_six_different_things_and_thirty_asks(self):
        stock = stock_of("a b2 c3 d e2 f")
        asks = words("f e d c b a") * 5
        for places in (3, 5, 7, 9, 10, 11):
            self.assert_ways(stock, asks, places, table_by_sets(stock, asks, places))
        paid, book, table = ways_of(stock, asks, 10)
        self.assertEqual((len(book), len(table), {len(row) for row in table}), (30, 30, {64}))
        self.assertEqual(paid, 111111)

    def test_where_there_is_no_way(self):
        dice = random.Random(36)
        for _ in range(60):
            stock, asks = drawn_case(dice, 6, 12, 3)
            names = numbered(asks)
            places = widest_of(stock, asks) + dice.randint(0, 4)
            table = ways_of(stock, asks, places)[2]
            for number, name in enumerate(asks):
                for lying in some_of(names):
                    entry = table[number][set_number(names, lying)]
                    if name not in lying or sum(map(stock.room_of, lying)) > places:
                        self.assertIsNone(entry)
                    self.assertEqual(entry is not None, may_lie(stock, asks[:number + 1], places, lying))

    def test_no_entry_is_below_the_cost_of_its_things(self):
        dice = random.Random(351)
        for _ in range(60):
            stock, asks = drawn_case(dice, 6, 20, 3)
            places = widest_of(stock, asks) + 3
            for number, row in enumerate(ways_of(stock, asks, places)[2]):
                for entry in row:
                    least = sum(map(stock.cost_of, set(asks[:number + 1])))
                    self.assertTrue(entry is None or entry >= least)


class TestRefused(WaysCase):
    def setUp(self):
        self.stock = stock_of("a b2 c3 d e f g h9")

    def told(self, title, asks, places):
        refusal = assert_refused(self, title, ways_of, self.stock, asks, places)
        return (refusal.name, refusal.place)

    def test_no_places(self):
        for places in NO_PLACES:
            for asks in ([], ["a"], ["z"], ["a"] * 31, words("a b c d e f g"), ["z"] * 201):
                assert_refused(self, "NoNumber", ways_of, self.stock, asks, places)

    def test_thirty_asks_and_one_more(self):
        self.assertEqual(len(ways_of(self.stock, ["a"] * 30, 3)[2]), 30)
        for asks in (["a"] * 31, words("a b") * 16, ["a"] * 200, ["a"] * 201):
            for places in (3, 10 ** 6):
                assert_refused(self, "TooMany", ways_of, self.stock, asks, places)

    def test_six_different_things_and_one_more(self):
        self.assertEqual(len(ways_of(self.stock, words("a b c d e f"), 3)[2]), 6)
        for asks in (words("a b c d e f g"), words("g a f a e a d a c a b"), ["a"] * 20 + words("b c d e f g")):
            for places in (3, 10 ** 6):
                assert_refused(self, "TooMany", ways_of, self.stock, asks, places)

    def test_beside_an_ask_that_is_refused(self):
        self.assertEqual(self.told("Unknown", ["a"] * 31 + ["z"], 3), ("z", 31))
        self.assertEqual(self.told("Unknown", ["z"] + ["h"] * 31, 3), ("z", 0))
        self.assertEqual(self.told("TooWide", ["a"] * 31 + ["c"], 2), ("c", 31))
        self.assertEqual(self.told("Unknown", words("a b c d e f g z"), 3), ("z", 7))
        self.assertEqual(self.told("TooWide", words("a b c d e f g h"), 8), ("h", 7))
        self.assertEqual(self.told("TooWide", words("a h z"), 3), ("h", 1))
        self.assertEqual(self.told("Unknown", words("a z h"), 3), ("z", 1))

    def test_more_than_two_hundred_asks_ahead_of_all_names(self):
        for name in ("z", "h"):
            assert_refused(self, "TooMany", ways_of, self.stock, [name] * 201, 3)


class TestBestOfAllWays(WaysCase):
    def test_pays_what_the_best_run_pays(self):
        dice = random.Random(37)
        for _ in range(300):
            stock, asks = drawn_case(dice, 6, 30)
            for places in (1, 2, 3, 4, 5, 6, 10 ** 6):
                self.assertEqual(ways_of(stock, asks, places)[0], best_of(stock, asks, places)[0], (asks, places))

    def test_short_rows_pay_what_the_best_run_pays(self):
        stock = stock_of("c a b d")
        for asks in short_rows("abcd", 5):
            for places in (2, 3):
                self.assertEqual(ways_of(stock, asks, places)[0], best_of(stock, asks, places)[0])

    def test_farthest_pays_the_same_where_all_costs_are_the_same(self):
        dice = random.Random(371)
        for cost in (0, 1, 6, GREAT):
            stock = Stock([(name, cost, 1) for name in "abcdef"])
            for _ in range(40):
                asks = [dice.choice("abcdef") for _ in range(dice.randint(1, 30))]
                for places in (1, 2, 3, 5, 6):
                    paid = paid_by(stock, book_of(Farthest(stock, places, asks), asks))
                    self.assertEqual(ways_of(stock, asks, places)[0], paid)

    def test_no_rule_pays_less_whatever_the_rooms(self):
        dice = random.Random(372)
        for _ in range(100):
            stock, asks = drawn_case(dice, 6, 30, 4)
            places = widest_of(stock, asks) + dice.randint(0, 6)
            paid = ways_of(stock, asks, places)[0]
            for rule in rules_for(stock, places, asks):
                self.assertTrue(paid <= paid_by(stock, book_of(rule, asks)))

    def test_no_floor_is_above_what_it_pays(self):
        dice = random.Random(373)
        for _ in range(200):
            stock, asks = drawn_case(dice, 6, 20, 4)
            places = widest_of(stock, asks) + dice.randint(0, 4)
            prices = [(dice.choice((0, 0, 1, dice.randint(0, 60))), 1) for _ in asks]
            self.assertTrue(floor_of(stock, asks, places, prices)[0] <= ways_of(stock, asks, places)[0])


class TestCopies(WaysCase):
    def test_what_is_handed_in_stays_as_it_was(self):
        stock = stock_of("a b2 c d")
        for asks in (words("a c d a b d"), words("a z"), ["a"] * 31, []):
            before = (list(asks), copy.deepcopy(vars(stock)))
            try:
                ways_of(stock, asks, 3)
            except ValueError:
                pass
            self.assertEqual((asks, vars(stock)), before)

    def test_lists_given_back_are_the_askers_own(self):
        stock = stock_of("a b2 c d")
        for asks in (words("a a a"), words("a b c d a a b b c")):
            first = ways_of(stock, asks, 4)
            kept = copy.deepcopy(first)
            for number in range(len(asks)):
                first[1][number][2].append("z")
                first[2][number].clear()
                self.assertEqual(first[1][number + 1:], kept[1][number + 1:])
                self.assertEqual(first[2][number + 1:], kept[2][number + 1:])
            first[1].clear()
            first[2].clear()
            self.assertEqual(ways_of(stock, asks, 4), kept)


if __name__ == "__main__":
    unittest.main()
