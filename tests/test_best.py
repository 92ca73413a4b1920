"""The best run: its book against the law and all lawful books, its prices against the floor that they set."""

import copy
import random
import unittest

from castoff.best import best_of
from castoff.books import lying_after, missed_by, paid_by
from castoff.papers import floor_of
from castoff.rules import Farthest, book_of
from castoff.stock import Stock
from tests.helper import (
    NO_PLACES, assert_refused, book_from, cheapest_paid, drawn_case, lawful_books, plain_floor, rules_for, short_rows,
    stock_of, wide_stock, words,
)

GREAT = 10 ** 30


def stock_by(names, costs):
    return Stock([(name, cost, 1) for name, cost in zip(names, costs)])


class BestCase(unittest.TestCase):
    def assert_book(self, asks, places, book):
        """Something goes at a miss alone, where the shelf has no room left, and then just one thing."""
        shelf = []
        self.assertEqual([row[0] for row in book], asks)
        for name, there, gone in book:
            self.assertIs(there, name in shelf)
            self.assertEqual(len(gone), int(not there and len(shelf) == places))
            for other in gone:
                self.assertNotEqual(other, name)
                shelf.remove(other)
            if not there:
                shelf.append(name)

    def assert_kinds(self, asks, told):
        paid, book, prices = told
        self.assertIs(type(told), tuple)
        self.assertIs(type(paid), int)
        self.assertEqual([type(part) for part in told[1:]], [list, list])
        for row in book:
            self.assertIs(type(row), tuple)
            self.assertEqual([type(part) for part in row], [str, bool, list])
        self.assertEqual(len(prices), len(asks))
        for price in prices:
            self.assertIs(type(price), tuple)
            self.assertEqual([type(part) for part in price], [int, int])
            self.assertEqual(price[1], 1)
            self.assertTrue(price[0] >= 0)

    def assert_best(self, stock, asks, places):
        """All that is told of the best run holds; what it pays is given back."""
        told = best_of(stock, asks, places)
        paid, book, prices = told
        self.assert_kinds(asks, told)
        self.assertEqual(len(lying_after(stock, asks, places, book)), len(asks))
        self.assert_book(asks, places, book)
        self.assertEqual(paid_by(stock, book), paid)
        self.assertEqual(plain_floor(stock, asks, places, prices), (paid, 1), (asks, places))
        self.assertEqual(floor_of(stock, asks, places, prices), (paid, 1))
        return paid


class TestByHand(BestCase):
    def test_no_asks(self):
        for stock in (Stock([]), stock_of("a b"), stock_of("a2 b9")):
            for places in (1, 2, 10 ** 6):
                self.assertEqual(best_of(stock, [], places), (0, [], []))

    def test_one_ask(self):
        for places in (1, 2, 10 ** 6):
            told = best_of(stock_of("a b"), ["b"], places)
            self.assertEqual(told[:2], (10, book_from("b-")))
            self.assertEqual(self.assert_best(stock_of("a b"), ["b"], places), 10)

    def test_one_thing_again_and_again(self):
        for places in (1, 2, 10 ** 6):
            for long in (2, 3, 40):
                told = best_of(stock_of("a b"), ["b"] * long, places)
                self.assertEqual(told[:2], (10, [("b", False, [])] + [("b", True, [])] * (long - 1)))
                self.assertEqual(self.assert_best(stock_of("a b"), ["b"] * long, places), 10)

    def test_one_place(self):
        stock = stock_of("a b c")
        told = best_of(stock, words("a a b a b b c c a"), 1)
        self.assertEqual(told[:2], (123, book_from("a- a+ b-a a-b b-a b+ c-b c+ a-c")))
        self.assertEqual(self.assert_best(stock, words("a a b a b b c c a"), 1), 123)

    def test_as_many_places_as_different_things(self):
        stock = stock_of("a b c d e")
        asks = words("c a b b a c d a c d b")
        for places in (4, 5, 10 ** 6):
            told = best_of(stock, asks, places)
            self.assertEqual(told[:2], (1111, book_from("c- a- b- b+ a+ c+ d- a+ c+ d+ b+")))
            self.assertEqual(self.assert_best(stock, asks, places), 1111)
        self.assertEqual(self.assert_best(stock, asks, 3), 1121)

    def test_two_places_and_unlike_costs(self):
        # One place is left beside the asked thing: a lies there up to its next ask, then c; so b is missed again.
        told = best_of(stock_of("a b c"), words("a b c a b c"), 2)
        self.assertEqual(told[:2], (121, book_from("a- b- c-b a+ b-a c+")))
        # Where b is the dearest, it alone is worth more than a and c; what goes for the last c is left open.
        paid, book, prices = best_of(stock_by("abc", (1, 100, 10)), words("a b c a b c"), 2)
        self.assertEqual((paid, book[:5]), (122, book_from("a- b- c-a a-c b+")))
        self.assertEqual(book[5][:2], ("c", False))

    def test_the_dear_thing_stays(self):
        # Of things all asked again the cheap one goes, though it is asked again first.
        stock = stock_by("abc", (2, 9, 5))
        told = best_of(stock, words("b a c a b"), 2)
        self.assertEqual(told[:2], (18, book_from("b- a- c-a a-c b+")))
        stock = stock_by("abc", (9, 2, 5))
        paid, book, prices = best_of(stock, words("b a c a b"), 2)
        self.assertEqual((paid, book[:4]), (18, book_from("b- a- c-b a+")))
        self.assertEqual(book[4][:2], ("b", False))

    def test_what_is_never_asked_again_goes(self):
        told = best_of(stock_of("a b c d"), words("d a b d a b c d"), 3)
        self.assertEqual(told[0], 1111)
        self.assertNotIn("d", told[1][6][2])

    def test_costs_of_nought_alone(self):
        stock = stock_by("abc", (0, 0, 0))
        for places in (1, 2, 3, 10 ** 6):
            for asks in short_rows("abc", 5):
                self.assertEqual(self.assert_best(stock, asks, places), 0)

    def test_a_cost_of_nought_beside_others(self):
        stock = stock_by("abc", (0, 5, 3))
        self.assertEqual(self.assert_best(stock, words("a b c a b c a c b"), 1), 24)
        self.assertEqual(self.assert_best(stock, words("a b c a b c a c b"), 2), 14)
        self.assertEqual(self.assert_best(stock, words("a b c a b c a c b"), 3), 8)

    def test_great_costs(self):
        stock = stock_by("abc", (GREAT, GREAT - 1, GREAT))
        told = best_of(stock, words("a b c a b c"), 2)
        self.assertEqual(told[0], 4 * GREAT - 2)
        self.assert_best(stock, words("a b c a b c"), 2)
        self.assertEqual(self.assert_best(stock, words("a b") * 20, 1), 20 * (2 * GREAT - 1))
        self.assertEqual(self.assert_best(stock_by("ab", (GREAT, 0)), words("a b") * 20, 1), 20 * GREAT)

    def test_a_thing_that_is_not_asked_may_have_any_room(self):
        stock = stock_of("a b9 c1000")
        self.assertEqual(self.assert_best(stock, words("a a"), 1), 1)


class TestRefused(BestCase):
    def setUp(self):
        self.stock = stock_of("a b2 c3 d")

    def told(self, title, asks, places):
        refusal = assert_refused(self, title, best_of, self.stock, asks, places)
        return (refusal.name, refusal.place)

    def test_no_places(self):
        for places in NO_PLACES:
            for asks in ([], ["a"], ["b"], ["z"], ["a"] * 41, ["z"] * 201):
                assert_refused(self, "NoNumber", best_of, self.stock, asks, places)

    def test_more_than_two_hundred_asks_ahead_of_all_names(self):
        for name in ("a", "b", "c", "z"):
            assert_refused(self, "TooMany", best_of, self.stock, [name] * 201, 2)

    def test_asks_that_are_refused(self):
        self.assertEqual(self.told("Unknown", words("a d z a"), 3), ("z", 2))
        self.assertEqual(self.told("TooWide", words("a d a c"), 2), ("c", 3))
        self.assertEqual(self.told("Unknown", ["a"] * 50 + ["z"], 3), ("z", 50))
        self.assertEqual(self.told("TooWide", ["a"] * 50 + ["b"], 1), ("b", 50))

    def test_another_room_beside_an_ask_that_is_refused(self):
        self.assertEqual(self.told("Unknown", words("b z"), 3), ("z", 1))
        self.assertEqual(self.told("Unknown", words("z b"), 3), ("z", 0))
        self.assertEqual(self.told("TooWide", words("b c"), 2), ("c", 1))
        self.assertEqual(self.told("TooWide", words("a b"), 1), ("b", 1))
        self.assertEqual(self.told("Unknown", ["b"] * 41 + ["z"], 2), ("z", 41))

    def test_another_room(self):
        for asks in (["b"], ["c"], words("a b"), words("a a a a c"), ["a"] * 39 + ["b"]):
            for places in (3, 4, 10 ** 6):
                assert_refused(self, "Unlike", best_of, self.stock, asks, places)

    def test_another_room_beside_more_than_forty_asks(self):
        for many in (40, 41, 199):
            assert_refused(self, "Unlike", best_of, self.stock, ["a"] * many + ["b"], 3)
            assert_refused(self, "Unlike", best_of, self.stock, ["b"] + ["a"] * many, 3)

    def test_forty_asks_and_one_more(self):
        self.assertEqual(self.assert_best(self.stock, ["a", "d"] * 20, 1), 20 * 1001)
        for asks in (["a", "d"] * 20 + ["a"], ["a"] * 41, ["a"] * 42, ["d"] * 200):
            for places in (1, 2, 10 ** 6):
                assert_refused(self, "TooMany", best_of, self.stock, asks, places)


class TestNobodyPaysLess(BestCase):
    def test_all_lawful_books_of_short_rows(self):
        for costs in ((1, 1, 1), (1, 10, 100), (100, 1, 10), (0, 2, 3), (5, 0, 5)):
            stock = stock_by("abc", costs)
            for asks in short_rows("abc", 4):
                for places in (1, 2, 3):
                    least = min(paid_by(stock, book) for book in lawful_books(stock, asks, places))
                    self.assertEqual(self.assert_best(stock, asks, places), least, (costs, asks, places))

    def test_all_short_rows(self):
        stock = stock_by("abcd", (3, 4, 0, 5))
        for asks in short_rows("abcd", 6):
            if asks[:1] in ([], ["a"]):
                for places in (2, 3):
                    self.assertEqual(self.assert_best(stock, asks, places), cheapest_paid(stock, asks, places))

    def test_drawn_rows(self):
        dice = random.Random(34)
        for _ in range(250):
            stock, asks = drawn_case(dice, 6, 40)
            for places in (1, 2, 3, 4, 5, 6, 10 ** 6):
                self.assertEqual(self.assert_best(stock, asks, places), cheapest_paid(stock, asks, places))

    def test_rows_of_forty_asks_of_many_things(self):
        # Here the floor alone shows that nobody pays less.
        dice = random.Random(341)
        for many in (8, 13, 20, 40, 60):
            for _ in range(6):
                costs = [dice.choice((0, 1, 7, dice.randint(0, 99), dice.randint(0, GREAT))) for _ in range(many)]
                stock = stock_by([f"t{number}" for number in range(many)], costs)
                asks = [dice.choice(stock.names()) for _ in range(40)]
                for places in (1, 2, 5, len(set(asks)) - 1, len(set(asks)), 10 ** 6):
                    self.assert_best(stock, asks, places)

    def test_no_rule_pays_less(self):
        dice = random.Random(342)
        for _ in range(80):
            stock, asks = drawn_case(dice, 8, 40)
            for places in (1, 2, 3, 5):
                paid = best_of(stock, asks, places)[0]
                for rule in rules_for(stock, places, asks):
                    self.assertTrue(paid <= paid_by(stock, book_of(rule, asks)), (asks, places))

    def test_more_places_never_pay_more(self):
        dice = random.Random(343)
        for _ in range(60):
            stock, asks = drawn_case(dice, 8, 40)
            paid = [best_of(stock, asks, places)[0] for places in range(1, 10)]
            self.assertEqual(paid, sorted(paid, reverse=True))
            self.assertEqual(paid[7:], [sum(map(stock.cost_of, set(asks)))] * 2)


class TestFarthest(BestCase):
    def assert_same(self, stock, asks, places):
        book = book_of(Farthest(stock, places, asks), asks)
        self.assertEqual(best_of(stock, asks, places)[0], paid_by(stock, book), (asks, places))

    def test_pays_the_same_where_all_costs_are_the_same(self):
        for cost in (0, 1, 9, GREAT):
            stock = stock_by("abc", (cost, cost, cost))
            for asks in short_rows("abc", 5):
                for places in (1, 2, 3):
                    self.assert_same(stock, asks, places)

    def test_pays_the_same_over_long_rows(self):
        dice = random.Random(37)
        stock = wide_stock(12, lambda number: 1)
        stock = stock_by(stock.names(), [5] * 12)
        for _ in range(60):
            some = dice.sample(stock.names(), dice.randint(2, 12))
            asks = [dice.choice(some) for _ in range(40)]
            for places in (1, 2, 3, 5, 8, 12, 10 ** 6):
                self.assert_same(stock, asks, places)
                self.assertEqual(5 * missed_by(best_of(stock, asks, places)[1]), best_of(stock, asks, places)[0])

    def test_other_things_of_the_stock_may_have_other_costs_and_rooms(self):
        stock = Stock([("a", 4, 1), ("z", 7, 9), ("b", 4, 1), ("c", 4, 1), ("y", 0, 1)])
        for asks in short_rows("abc", 5):
            self.assert_same(stock, asks, 2)


class TestCopies(BestCase):
    def test_what_is_handed_in_stays_as_it_was(self):
        stock = stock_of("a b2 c d")
        for asks in (words("a c d a c d"), words("a b"), words("a z"), ["a"] * 41, []):
            before = (list(asks), copy.deepcopy(vars(stock)))
            try:
                best_of(stock, asks, 2)
            except ValueError:
                pass
            self.assertEqual((asks, vars(stock)), before)

    def test_lists_given_back_are_the_askers_own(self):
        stock = stock_of("a b c d")
        asks = words("a b c d a a b b c")
        for places in (1, 2, 10 ** 6):
            first = best_of(stock, asks, places)
            kept = copy.deepcopy(first)
            for number, row in enumerate(first[1]):
                row[2].append("z")
                self.assertEqual(first[1][number + 1:], kept[1][number + 1:])
            first[1].clear()
            first[2].clear()
            self.assertEqual(best_of(stock, asks, places), kept)


if __name__ == "__main__":
    unittest.main()
