import copy
import random
import unittest
from fractions import Fraction

from castoff.books import lying_after, paid_by
from castoff.flows import flow_of
from castoff.papers import floor_of
from castoff.rules import book_of
from castoff.stock import Stock
from tests.helper import (
    NO_PLACES, assert_refused, book_from, cheapest_paid, drawn_case, gaps_between, lawful_books, long_cases,
    plain_floor, ratios, rules_for, short_rows, stock_of, wide_stock, widest_of, words,
)

GREAT = 10 ** 30


def drawn_prices(dice, many, most):
    """One ratio for each ask, from 0 on: noughts, whole numbers and parts among them."""
    bottoms = (1, 1, 2, 3, 12, 10 ** 9 + 7)
    return [Fraction(dice.choice((0, 1, dice.randint(0, most))), dice.choice(bottoms)).as_integer_ratio()
            for _ in range(many)]


class TestFloor(unittest.TestCase):
    def floor(self, text, asks, places, prices):
        return floor_of(stock_of(text), words(asks), places, ratios(prices))

    def test_no_asks(self):
        for places in (1, 2, 10 ** 6):
            self.assertEqual(floor_of(stock_of("a b"), [], places, []), (0, 1))
            self.assertEqual(floor_of(Stock([]), [], places, []), (0, 1))

    def test_one_ask(self):
        self.assertEqual(self.floor("a b", "b", 1, "7"), (10, 1))
        self.assertEqual(self.floor("a b", "b", 2, "7"), (3, 1))
        self.assertEqual(self.floor("a b", "b", 3, "7"), (-4, 1))
        self.assertEqual(self.floor("a b", "b", 3, "0"), (10, 1))
        self.assertEqual(self.floor("a b2", "b", 3, "1/3"), (29, 3))

    def test_a_gap_takes_the_prices_strictly_between(self):
        # 1 + 10 + 100 for the first asks; b and c lie between the two asks of a.
        self.assertEqual(self.floor("a b c", "a b c a", 1, "5 1/4 1/2 9"), (447, 4))
        self.assertEqual(self.floor("a b c", "b a c b", 1, "9 2 3 9"), (116, 1))
        self.assertEqual(self.floor("a b c", "b a c b", 2, "0 2 3 0"), (111, 1))

    def test_a_gap_takes_no_more_than_the_cost(self):
        for price, told in (("0", (11, 1)), ("1/2", (23, 2)), ("1", (12, 1)), ("2", (12, 1)), ("1000000", (12, 1))):
            self.assertEqual(self.floor("a b", "a b a", 1, f"0 {price} 0"), told)

    def test_a_gap_takes_the_things_room_times_the_prices(self):
        # b has room 3 and cost 10: 3 times 2 is less, 3 times 4 is more.
        self.assertEqual(self.floor("a b3", "b a b", 3, "0 2 0"), (1 + 10 + 6 - 4, 1))
        self.assertEqual(self.floor("a b3", "b a b", 3, "0 4 0"), (1 + 10 + 10 - 8, 1))
        self.assertEqual(self.floor("a b3", "b a b", 4, "1 2 1"), (1 + 10 + 6 - 6 - 2, 1))

    def test_every_gap_of_a_thing_counts(self):
        self.assertEqual(self.floor("a b", "b a b a b", 1, "0 3 0 4 0"), (11 + 3 + 0 + 4, 1))
        self.assertEqual(self.floor("a b", "b a b a b", 1, "0 3 1/2 4 0"), (37, 2))

    def test_nothing_between_neighbouring_asks(self):
        self.assertEqual(self.floor("a b", "b b b b", 1, "9 9 9 9"), (10, 1))
        self.assertEqual(self.floor("a b2", "b b", 5, "1 2"), (10 - 3 - 6, 1))

    def test_prices_of_nought_alone(self):
        # So only the first ask of each thing counts.
        self.assertEqual(self.floor("a b c", "a b c a b c b", 1, "0 0 0 0 0 0 0"), (111, 1))
        self.assertEqual(self.floor("a b2 c3", "c b c b", 10 ** 6, "0 0 0 0"), (110, 1))

    def test_a_floor_below_nought(self):
        self.assertEqual(self.floor("a b", "a b a", 10, "0 100 0"), (1 + 10 + 1 - 900, 1))
        self.assertEqual(self.floor("a b", "a", 10 ** 6, "1"), (1 - 999999, 1))
        self.assertEqual(self.floor("a b", "a", 3, "5/7"), (-3, 7))

    def test_a_floor_of_nought(self):
        self.assertEqual(self.floor("a b", "b", 3, "5"), (0, 1))
        self.assertEqual(floor_of(Stock([("a", 0, 1)]), ["a", "a"], 1, ratios("3/7 2")), (0, 1))

    def test_a_shelf_just_as_wide_as_the_asked_thing(self):
        for price in ("0", "1", "5/3", "1000"):
            self.assertEqual(self.floor("a b3", "b b b", 3, f"{price} {price} {price}"), (10, 1))

    def test_great_costs_and_great_bottoms(self):
        stock = Stock([("a", GREAT, 1), ("b", GREAT - 1, 1000)])
        prices = [(1, GREAT), (GREAT, 1), (1, GREAT + 1)]
        for places in (1000, 10 ** 6):
            for asks in (["a", "b", "a"], ["b", "a", "b"], ["a", "a", "b"]):
                told = floor_of(stock, asks, places, prices)
                self.assertEqual(told, plain_floor(stock, asks, places, prices))
        # The gap of b takes 1000 times the price between, of which 999 times is taken off again.
        told = floor_of(stock, ["b", "a", "b"], 1000, [(0, 1), (1, GREAT), (0, 1)])
        self.assertEqual(told, ((2 * GREAT - 1) * GREAT + 1, GREAT))

    def test_in_lowest_terms(self):
        self.assertEqual(self.floor("a b", "a b a", 2, "1/6 1/3 1/6"), (32, 3))
        self.assertEqual(self.floor("a b", "a b a", 2, "1/4 1 3/4"), (10, 1))
        self.assertEqual(self.floor("a b", "b", 2, "1/2"), (19, 2))
        self.assertEqual(self.floor("a b", "a b", 3, "1/2 1/2"), (9, 1))

    def test_two_hundred_asks_with_bottoms_that_share_nothing(self):
        stock = wide_stock(60, lambda number: 1 + number % 7)
        asks = (stock.names() * 4)[:200]
        bottoms = [10 ** 30 + number for number in range(200)]
        prices = [Fraction(number, bottom).as_integer_ratio() for number, bottom in enumerate(bottoms)]
        self.assertEqual(floor_of(stock, asks, 9, prices), plain_floor(stock, asks, 9, prices))

    def test_against_the_words_of_the_document(self):
        dice = random.Random(32)
        for text in ("d c b a", "a3 b c2 d"):
            stock = stock_of(text)
            for asks in short_rows("abcd", 5):
                places = dice.choice((3, 4, 9, 10 ** 6))
                prices = drawn_prices(dice, len(asks), dice.choice((2, 30, 900)))
                self.assertEqual(floor_of(stock, asks, places, prices), plain_floor(stock, asks, places, prices))
        for stock, places, asks in long_cases():
            prices = drawn_prices(dice, len(asks), dice.choice((2, 30, 900)))
            self.assertEqual(floor_of(stock, asks, places, prices), plain_floor(stock, asks, places, prices))


class TestRefused(unittest.TestCase):
    def setUp(self):
        self.stock = stock_of("a b2 c3")

    def told(self, title, asks, places, prices):
        refusal = assert_refused(self, title, floor_of, self.stock, asks, places, prices)
        return (refusal.name, refusal.place)

    def test_another_number_of_prices_than_of_asks(self):
        for asks in ([], ["a"], ["a", "b", "a"], ["a"] * 200):
            many = len(asks)
            for other in {0, 1, many - 1, many + 1, 2 * many, 201, 400} - {many, -1}:
                for price in ((0, 1), (1, 2), (-1, 2)):
                    assert_refused(self, "BadPaper", floor_of, self.stock, asks, 3, [price] * other)
            self.assertEqual(floor_of(self.stock, asks, 1 + 2 * (many < 200), [(0, 1)] * many)[1], 1)

    def test_a_price_below_nought(self):
        asks = words("a b c a")
        for number in range(4):
            for low in ((-1, 1), (-1, GREAT), (0 - GREAT, 1), (-1, 3)):
                prices = ratios("1 1/2 0 7")
                prices[number] = low
                assert_refused(self, "BadPaper", floor_of, self.stock, asks, 3, prices)
                assert_refused(self, "BadPaper", floor_of, self.stock, asks, 10 ** 6, prices)
        assert_refused(self, "BadPaper", floor_of, self.stock, ["a"], 1, [(-1, 2)])

    def test_a_price_of_nought_is_none_below(self):
        self.assertEqual(floor_of(self.stock, ["a"], 1, [(0, 1)]), (1, 1))

    def test_the_asks_are_refused_ahead_of_the_prices(self):
        for some in ([], [(0, 1)], [(-1, 1)], [(-1, 2), (0, 1)], [(-1, 1)] * 201, [(0, 1)] * 300):
            for places in NO_PLACES:
                for asks in ([], ["a"], ["z"], ["a"] * 201):
                    assert_refused(self, "NoNumber", floor_of, self.stock, asks, places, some)
            for asks in (["a"] * 201, ["z"] * 201, ["c"] * 201):
                assert_refused(self, "TooMany", floor_of, self.stock, asks, 1, some)
            self.assertEqual(self.told("Unknown", ["a", "z"], 3, some), ("z", 1))
            self.assertEqual(self.told("Unknown", ["z", "c"], 2, some), ("z", 0))
            self.assertEqual(self.told("TooWide", ["a", "c"], 2, some), ("c", 1))
            self.assertEqual(self.told("TooWide", ["b", "z"], 1, some), ("b", 0))

    def test_two_hundred_asks_and_one_more(self):
        self.assertEqual(floor_of(self.stock, ["a"] * 200, 1, [(5, 1)] * 200), (1, 1))
        assert_refused(self, "TooMany", floor_of, self.stock, ["a"] * 201, 1, [(5, 1)] * 201)


class TestNoBookPaysLess(unittest.TestCase):
    def assert_no_less(self, stock, asks, places, prices, paid):
        top, bottom = floor_of(stock, asks, places, prices)
        self.assertTrue(top <= paid * bottom, (asks, places, prices, paid))

    def test_all_lawful_books_of_short_rows(self):
        dice = random.Random(33)
        for text, places in (("a b c", 1), ("c b a", 2), ("a b2 c", 2), ("a b2 c3", 3), ("a2 b c2", 4)):
            stock = stock_of(text)
            for asks in short_rows("abc", 4):
                drawn = [drawn_prices(dice, len(asks), 120) for _ in range(4)]
                for book in lawful_books(stock, asks, places):
                    for prices in drawn:
                        self.assert_no_less(stock, asks, places, prices, paid_by(stock, book))

    def test_the_books_gone_through_are_lawful_and_many(self):
        # Behind b there are two ways, two behind the second a for each, and two behind c for each of those.
        stock = stock_of("a b2 c3")
        books = list(lawful_books(stock, words("a b a c"), 4))
        for book in books:
            lying_after(stock, words("a b a c"), 4, book)
        self.assertIn(book_from("a- b- a+ c-b"), books)
        self.assertIn(book_from("a- b-a a-b c-a"), books)
        self.assertIn(book_from("a- b- a+b c-"), books)
        self.assertEqual(len(books), 8)

    def test_the_cheapest_of_all_books(self):
        dice = random.Random(331)
        for _ in range(400):
            stock, asks = drawn_case(dice, 5, 12, 4)
            widest = widest_of(stock, asks)
            places = dice.randint(widest, widest + 6)
            least = cheapest_paid(stock, asks, places)
            for most in (1, 3, 20, 99):
                self.assert_no_less(stock, asks, places, drawn_prices(dice, len(asks), most), least)
            for price in ((0, 1), (1, 7), (1, 1), (50, 1)):
                self.assert_no_less(stock, asks, places, [price] * len(asks), least)

    def test_the_books_of_the_rules(self):
        dice = random.Random(332)
        for stock, places, asks in long_cases():
            drawn = [drawn_prices(dice, len(asks), most) for most in (1, 60)]
            drawn += [[Fraction(1, 2 * places).as_integer_ratio()] * len(asks)]
            for rule in rules_for(stock, places, asks):
                paid = paid_by(stock, book_of(rule, asks))
                for prices in drawn[-1:] if places == 10 ** 6 else drawn:
                    self.assert_no_less(stock, asks, places, prices, paid)

    def test_books_of_the_rules_over_short_rows(self):
        dice = random.Random(333)
        for text, places in (("d c b a", 2), ("a3 b c2 d", 4)):
            stock = stock_of(text)
            for asks in short_rows("abcd", 4):
                prices = drawn_prices(dice, len(asks), 500)
                for rule in rules_for(stock, places, asks):
                    self.assert_no_less(stock, asks, places, prices, paid_by(stock, book_of(rule, asks)))

    def test_some_floors_are_reached(self):
        # Of room 1 there are always prices whose floor is just what the cheapest book pays.
        dice = random.Random(334)
        for _ in range(300):
            stock, asks = drawn_case(dice, 5, 14)
            for places in (1, 2, 3, 4, 10 ** 6):
                jumps = [(between.start, between.stop, stock.cost_of(name)) for name, between in gaps_between(asks)]
                heights = flow_of(len(asks) + 1, jumps, places - 1)[1]
                prices = [(high - low, 1) for low, high in zip(heights, heights[1:])]
                self.assertEqual(floor_of(stock, asks, places, prices), (cheapest_paid(stock, asks, places), 1))


class TestCopies(unittest.TestCase):
    def test_what_is_handed_in_stays_as_it_was(self):
        stock = stock_of("a b2 c3")
        for asks, places, prices in (
            (words("a b a c"), 4, ratios("1/2 2 0 7/3")),
            (words("a b a c"), 4, ratios("1/2 2 0")),
            (words("a b a c"), 4, ratios("1/2 2 0 -1")),
            (words("a b a z"), 4, ratios("1/2 2 0 1")),
        ):
            before = copy.deepcopy((asks, prices))
            try:
                floor_of(stock, asks, places, prices)
            except ValueError:
                pass
            self.assertEqual((asks, prices), before)

    def test_the_same_again_and_its_kinds(self):
        stock = stock_of("a b2 c3")
        for prices in ("1/2 2 0 7/3", "0 0 0 0", "9 9 9 9"):
            told = floor_of(stock, words("a b a c"), 4, ratios(prices))
            self.assertEqual([type(told)] + [type(part) for part in told], [tuple, int, int])
            self.assertEqual(floor_of(stock, words("a b a c"), 4, ratios(prices)), told)


if __name__ == "__main__":
    unittest.main()
