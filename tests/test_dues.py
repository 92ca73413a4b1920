"""The rule by dues: runs worked by hand, a second telling by credits that fall, and its share of the best run."""

import random
import unittest
from fractions import Fraction

from castoff.best import best_of
from castoff.books import lying_after, paid_by
from castoff.dues import Dues
from castoff.papers import floor_of
from castoff.rules import Oldest, book_of
from castoff.stock import Stock
from castoff.ways import ways_of
from tests.helper import (
    RuleTests, Watch, assert_refused, book_from, cheapest_paid, drawn_case, lawful_books, plain_run, ratios,
    short_rows, stock_of, wide_stock, widest_of, words,
)

GREAT = 10 ** 30
# Texts that are no name of any thing of a stock, whatever it is.
NO_NAMES = ("", " ", "A", "1a", "a b", "abcdefghi", "a-", "?", "a\n", "0")


def dues_of(rule):
    """The dues of all that lies on the shelf, in the order of the stock."""
    told = []
    for name in rule.stock.names():
        try:
            told.append((name, rule.due_of(name)))
        except ValueError:
            pass
    return told


def told_by(rule):
    return (rule.level(), dues_of(rule), rule.prices())


def shown(told):
    """What a rule tells, as a text: its level; the dues; the prices."""
    def show(ratio):
        return str(Fraction(*ratio))
    level, dues, prices = told
    parts = [show(level), " ".join(name + "=" + show(due) for name, due in dues), " ".join(map(show, prices))]
    return "; ".join(parts).strip()


def shown_behind_calls(stock, places, asks):
    """The calls of a run, but for choices, with what the rule tells behind each."""
    rule = Watch(Dues(stock, places), told_by)
    book_of(rule, words(asks))
    return [f"{title} {given}: {shown(told)}" for title, given, told in rule.seen if title != "choice"]


class CreditsByHand:
    """Each thing has its cost for each of its places as credit; all credits fall until one that is used up goes."""

    def __init__(self, stock, places):
        self.stock = stock
        self.credits = {}
        self.falls = []

    def see(self, asks, number):
        """Brings the falls up to this ask: each thing that was asked ahead of it has its whole credit then."""
        while len(self.falls) <= number:
            if self.falls:
                name = asks[len(self.falls) - 1]
                self.credits[name] = Fraction(self.stock.cost_of(name), self.stock.room_of(name))
            self.falls.append(Fraction(0))

    def pick(self, asks, number, shelf):
        self.see(asks, number)
        fall = min(self.credits[name] for name in shelf)
        for name in shelf:
            self.credits[name] -= fall
        self.falls[number] += fall
        past = asks[:number][::-1]
        name = max([name for name in shelf if self.credits[name] == 0], key=past.index)
        self.credits.pop(name)
        return name

    def told(self, asks):
        self.see(asks, len(asks))
        level = sum(self.falls)
        names = [name for name in self.stock.names() if name in self.credits]
        return (
            level.as_integer_ratio(),
            [(name, (level + self.credits[name]).as_integer_ratio()) for name in names],
            [fall.as_integer_ratio() for fall in self.falls[:-1]],
        )


class TestEveryRule(RuleTests, unittest.TestCase):
    kinds = (Dues,)
    tell = staticmethod(told_by)

    def each_book(self, stock, places, asks):
        given = list(asks)
        rule = Dues(stock, places)
        book = book_of(rule, given)
        model = CreditsByHand(stock, places)
        self.assertEqual(given, asks)
        self.assertEqual(book, plain_run(stock, places, asks, model.pick), (places, asks))
        self.assertEqual(told_by(rule), model.told(asks), (places, asks))
        self.assertEqual(len(lying_after(stock, asks, places, book)), len(asks))

    def test_drawn_costs(self):
        dice = random.Random(42)
        for _ in range(300):
            stock, asks = drawn_case(dice, 8, 40, dice.choice((1, 2, 5)))
            widest = widest_of(stock, asks)
            for places in (widest, widest + 1, widest + dice.randint(2, 9)):
                self.each_book(stock, places, asks)

    def test_great_costs_and_rooms(self):
        dice = random.Random(421)
        rows = [(f"t{number}", GREAT - number, 1000 - number) for number in range(60)]
        stock = Stock(rows)
        asks = [dice.choice(stock.names()) for _ in range(200)]
        for places in (1000, 3000, 20000, 10 ** 6):
            self.each_book(stock, places, asks)


class TestByHand(unittest.TestCase):
    # Per place a costs 3, b 1, c 5/2 and d 4/3.
    stock = Stock([("a", 6, 2), ("b", 1, 1), ("c", 10, 4), ("d", 4, 3)])
    asks = "a b a c b d b b a"

    def test_the_book(self):
        book = book_of(Dues(self.stock, 5), words(self.asks))
        self.assertEqual(book, book_from("a- b- a+ c-b,a b- d-b,c b- b+ a-b"))

    def test_level_dues_and_prices_behind_each_call(self):
        self.assertEqual(shown_behind_calls(self.stock, 5, self.asks), [
            "asked a: 0; ; 0",
            "came a: 0; a=3; 0",
            "asked b: 0; a=3; 0 0",
            "came b: 0; a=3 b=1; 0 0",
            "asked a: 0; a=3 b=1; 0 0 0",
            "asked c: 0; a=3 b=1; 0 0 0 0",
            "gone b: 1; a=3; 0 0 0 1",
            "gone a: 3; ; 0 0 0 3",
            "came c: 3; c=11/2; 0 0 0 3",
            "asked b: 3; c=11/2; 0 0 0 3 0",
            "came b: 3; b=4 c=11/2; 0 0 0 3 0",
            "asked d: 3; b=4 c=11/2; 0 0 0 3 0 0",
            "gone b: 4; c=11/2; 0 0 0 3 0 1",
            "gone c: 11/2; ; 0 0 0 3 0 5/2",
            "came d: 11/2; d=41/6; 0 0 0 3 0 5/2",
            "asked b: 11/2; d=41/6; 0 0 0 3 0 5/2 0",
            "came b: 11/2; b=13/2 d=41/6; 0 0 0 3 0 5/2 0",
            "asked b: 11/2; b=13/2 d=41/6; 0 0 0 3 0 5/2 0 0",
            "asked a: 11/2; b=13/2 d=41/6; 0 0 0 3 0 5/2 0 0 0",
            "gone b: 13/2; d=41/6; 0 0 0 3 0 5/2 0 0 1",
            "came a: 13/2; a=19/2 d=41/6; 0 0 0 3 0 5/2 0 0 1",
        ])

    def test_a_hit_raises_the_due_by_the_level(self):
        stock = Stock([("a", 5, 1), ("b", 1, 1), ("c", 2, 1)])
        self.assertEqual(shown_behind_calls(stock, 2, "a b c a c")[-4:], [
            "gone b: 1; a=5; 0 0 1",
            "came c: 1; a=5 c=3; 0 0 1",
            "asked a: 1; a=6 c=3; 0 0 1 0",
            "asked c: 1; a=6 c=3; 0 0 1 0 0",
        ])

    def test_ahead_of_the_run_and_without_asks(self):
        rule = Dues(self.stock, 5)
        self.assertEqual(told_by(rule), ((0, 1), [], []))
        self.assertEqual(book_of(rule, []), [])
        self.assertEqual(told_by(rule), ((0, 1), [], []))

    def test_what_a_rule_tells_is_of_the_told_kinds(self):
        rule = Dues(self.stock, 5)
        book_of(rule, words(self.asks))
        self.assertIs(type(rule.prices()), list)
        for ratio in [rule.level(), rule.due_of("a"), rule.due_of("d")] + rule.prices():
            self.assertEqual([type(part) for part in (ratio,) + ratio], [tuple, int, int])
            self.assertEqual(ratio, Fraction(*ratio).as_integer_ratio())
        self.assertEqual((rule.level(), rule.due_of("a"), rule.due_of("d")), ((13, 2), (19, 2), (41, 6)))
        self.assertEqual(rule.prices(), ratios("0 0 0 3 0 5/2 0 0 1"))

    def test_of_several_with_the_least_due_what_was_longest_not_asked(self):
        # Both have the due 2 for each place; a lies there longer, but was asked again.
        for rows in ([("a", 2, 1), ("b", 2, 1), ("c", 9, 1)], [("b", 4, 2), ("a", 2, 1), ("c", 9, 1)]):
            stock = Stock(rows)
            places = stock.room_of("a") + stock.room_of("b")
            self.assertEqual(book_of(Dues(stock, places), words("a b a c")), book_from("a- b- a+ c-b"))
            self.assertEqual(book_of(Dues(stock, places), words("a b b c")), book_from("a- b- b+ c-a"))
            self.assertEqual(book_of(Dues(stock, places), words("b a b c")), book_from("b- a- b+ c-a"))

    def test_equal_dues_by_unlike_levels(self):
        # With d gone the level is 1, so e has the due 2 as a has it from before; a was longest not asked.
        stock = Stock([("a", 2, 1), ("d", 1, 1), ("e", 1, 1), ("f", 1, 1)])
        self.assertEqual(book_of(Dues(stock, 2), words("a d e f")), book_from("a- d- e-d f-a"))
        rule = Dues(stock, 2)
        book_of(rule, words("a d e"))
        self.assertEqual((rule.due_of("a"), rule.due_of("e")), ((2, 1), (2, 1)))
        # Asked again behind e, its due is 3.
        self.assertEqual(book_of(Dues(stock, 2), words("a d e a f")), book_from("a- d- e-d a+ f-e"))

    def test_several_with_the_same_due_go_at_one_ask(self):
        stock = Stock([("a", 3, 1), ("b", 3, 1), ("c", 6, 2), ("d", 7, 4)])
        rule = Dues(stock, 4)
        self.assertEqual(book_of(rule, words("b a c b d")), book_from("b- a- c- b+ d-a,c,b"))
        self.assertEqual((rule.level(), rule.due_of("d"), rule.prices()), ((3, 1), (19, 4), ratios("0 0 0 0 3")))

    def test_costs_of_nought(self):
        stock = Stock([("a", 0, 1), ("b", 0, 3), ("c", 0, 2)])
        rule = Dues(stock, 3)
        self.assertEqual(book_of(rule, words("a c b a a c")), book_from("a- c- b-a,c a-b a+ c-"))
        self.assertEqual(told_by(rule), ((0, 1), [("a", (0, 1)), ("c", (0, 1))], ratios("0 0 0 0 0 0")))

    def test_the_cheap_thing_goes_ahead_of_the_dear_one(self):
        # By stock_of a costs 1 and c costs 100: a goes though it was asked last.
        self.assertEqual(book_of(Dues(stock_of("a b c"), 2), words("c a b c")), book_from("c- a- b-a c+"))
        # Of the same cost the one that takes more room goes.
        stock = Stock([("a", 6, 1), ("b", 6, 3), ("c", 6, 1)])
        self.assertEqual(book_of(Dues(stock, 4), words("a b c")), book_from("a- b- c-b"))

    def test_a_thing_that_comes_again_has_a_new_due(self):
        stock = Stock([("a", 1, 1), ("b", 4, 1)])
        self.assertEqual(shown_behind_calls(stock, 1, "a b a b")[-3:], [
            "asked b: 5; a=6; 0 1 4 0",
            "gone a: 6; ; 0 1 4 1",
            "came b: 6; b=10; 0 1 4 1",
        ])


class TestDueOf(unittest.TestCase):
    def setUp(self):
        self.stock = stock_of("a b2 c d")
        self.rule = Dues(self.stock, 3)
        book_of(self.rule, words("a b c"))

    def test_of_what_lies_there(self):
        # For c the thing with the least due goes, a; so the level is 1, and c has 100 more than that.
        self.assertEqual(book_of(Dues(self.stock, 3), words("a b c")), book_from("a- b- c-a"))
        self.assertEqual((self.rule.due_of("b"), self.rule.due_of("c")), ((5, 1), (101, 1)))

    def test_of_a_thing_that_went(self):
        assert_refused(self, "NotThere", self.rule.due_of, "a")

    def test_of_a_thing_that_never_lay_there(self):
        assert_refused(self, "NotThere", self.rule.due_of, "d")

    def test_of_a_thing_that_the_stock_has_not(self):
        for name in ("z", "aa", "bc", "c1"):
            assert_refused(self, "NotThere", self.rule.due_of, name)

    def test_of_a_text_that_is_no_name(self):
        for text in NO_NAMES:
            assert_refused(self, "NotThere", self.rule.due_of, text)

    def test_ahead_of_the_run(self):
        for name in ("a", "b", "z") + NO_NAMES:
            assert_refused(self, "NotThere", Dues(self.stock, 3).due_of, name)
            assert_refused(self, "NotThere", Dues(Stock([]), 3).due_of, name)

    def test_of_the_asked_thing_until_it_came(self):
        rule = Dues(self.stock, 3)
        rule.asked("a")
        assert_refused(self, "NotThere", rule.due_of, "a")
        rule.came("a")
        self.assertEqual(rule.due_of("a"), (1, 1))

    def test_between_a_choice_and_the_going(self):
        rule = Dues(self.stock, 3)
        for name in ("a", "b"):
            rule.asked(name)
            rule.came(name)
        rule.asked("c")
        self.assertEqual(rule.choice(["a", "b"]), "a")
        self.assertEqual(rule.due_of("b"), (5, 1))
        assert_refused(self, "NotThere", rule.due_of, "c")
        rule.gone("a")
        self.assertEqual(rule.due_of("b"), (5, 1))
        assert_refused(self, "NotThere", rule.due_of, "a")

    def test_what_is_refused_changes_nothing(self):
        before = told_by(self.rule)
        for text in ("a", "d", "z") + NO_NAMES:
            assert_refused(self, "NotThere", self.rule.due_of, text)
        self.assertEqual(told_by(self.rule), before)


class TestLevel(unittest.TestCase):
    def assert_level(self, stock, places, asks):
        """Behind each call the level has not fallen, no due is below it, and the prices come to it."""
        rule = Watch(Dues(stock, places), told_by)
        book_of(rule, asks)
        before = Fraction(0)
        asked = 0
        for title, given, (level, dues, prices) in rule.seen:
            asked += title == "asked"
            level = Fraction(*level)
            self.assertTrue(level >= before)
            self.assertTrue(title == "gone" or level == before)
            self.assertTrue(all(Fraction(*due) >= level for name, due in dues))
            self.assertEqual(len(prices), asked)
            self.assertEqual(sum(Fraction(*price) for price in prices), level)
            self.assertTrue(all(price[0] >= 0 for price in prices))
            before = level

    def test_drawn_rows(self):
        dice = random.Random(422)
        for _ in range(100):
            stock, asks = drawn_case(dice, 8, 40, dice.choice((1, 4)))
            self.assert_level(stock, widest_of(stock, asks) + dice.randint(0, 5), asks)

    def test_a_long_row(self):
        dice = random.Random(423)
        stock = wide_stock(30, lambda number: 1 + number % 7)
        self.assert_level(stock, 20, [dice.choice(stock.names()) for _ in range(200)])


class TestShareOfTheBest(unittest.TestCase):
    def assert_share(self, stock, places, asks, least_by):
        """For each number fewer: the floor of the prices, and what the cheapest book of the fewer places pays."""
        rule = Dues(stock, places)
        paid = paid_by(stock, book_of(rule, asks))
        for fewer in range(widest_of(stock, asks), places + 1):
            share = paid * (places - fewer + 1)
            floor = Fraction(*floor_of(stock, asks, fewer, rule.prices()))
            self.assertTrue(floor * places >= share, (asks, places, fewer))
            if least_by:
                self.assertTrue(share <= least_by(stock, asks, fewer)[0] * places, (asks, places, fewer))

    def test_against_all_ways(self):
        dice = random.Random(43)
        for _ in range(200):
            stock, asks = drawn_case(dice, 6, 30, 4)
            for places in (4, 5, 7, 11):
                self.assert_share(stock, places, asks, ways_of)

    def test_against_the_best_run(self):
        dice = random.Random(431)
        for _ in range(120):
            stock, asks = drawn_case(dice, 8, 40)
            for places in (1, 2, 3, 6):
                self.assert_share(stock, places, asks, best_of)

    def test_short_rows(self):
        stock = Stock([("a", 3, 1), ("b", 5, 2), ("c", 4, 1), ("d", 0, 1)])
        for asks in short_rows("abc", 5):
            for places in (2, 3):
                self.assert_share(stock, places, asks, ways_of)

    def test_all_lawful_books_of_short_rows(self):
        stock = Stock([("a", 3, 1), ("b", 5, 2), ("c", 4, 1)])
        for asks in short_rows("abc", 4):
            paid = paid_by(stock, book_of(Dues(stock, 4), asks))
            for fewer in (2, 3, 4):
                for book in lawful_books(stock, asks, fewer):
                    self.assertTrue(paid * (4 - fewer + 1) <= paid_by(stock, book) * 4)

    def test_long_rows(self):
        # Here the floor alone shows it.
        dice = random.Random(432)
        for widest in (1, 5):
            stock = wide_stock(40, lambda number: 1 + number % widest)
            for long in (60, 200):
                asks = [dice.choice(stock.names()) for _ in range(long)]
                for places in (widest, 2 * widest + 1, 30):
                    self.assert_share(stock, places, asks, None)

    def test_the_share_is_all_but_reached(self):
        # With two places each the book may pay twice as much, and by turns it pays nearly that.
        stock = Stock([(name, 1, 1) for name in "abc"])
        asks = words("a b c") * 10
        paid = paid_by(stock, book_of(Dues(stock, 2), asks))
        self.assertEqual((paid, cheapest_paid(stock, asks, 2)), (30, 16))


class TestAgainstOldest(unittest.TestCase):
    def assert_same(self, stock, places, asks):
        self.assertEqual(book_of(Dues(stock, places), asks), book_of(Oldest(stock, places), asks), (places, asks))

    def test_where_all_costs_and_rooms_are_the_same(self):
        for cost, room in ((1, 1), (0, 1), (7, 3), (GREAT, 1000), (0, 2)):
            stock = Stock([(name, cost, room) for name in "cadb"])
            for asks in short_rows("abcd", 5):
                for places in (room, 2 * room, 3 * room + room // 2):
                    self.assert_same(stock, places, asks)

    def test_over_long_rows(self):
        dice = random.Random(433)
        for cost, room in ((1, 1), (5, 2), (0, 3)):
            stock = Stock([(f"t{number}", cost, room) for number in range(20)])
            for _ in range(10):
                asks = [dice.choice(stock.names()) for _ in range(200)]
                for places in (room, 3 * room, 8 * room + 1, 30 * room):
                    self.assert_same(stock, places, asks)

    def test_other_things_of_the_stock_may_be_unlike(self):
        stock = Stock([("a", 4, 2), ("z", 7, 9), ("b", 4, 2), ("c", 4, 2), ("y", 0, 1)])
        for asks in short_rows("abc", 5):
            self.assert_same(stock, 5, asks)


class TestCopies(unittest.TestCase):
    def test_prices_given_back_are_the_askers_own(self):
        rule = Dues(stock_of("a b"), 1)
        book_of(rule, words("a b a"))
        before = told_by(rule)
        rule.prices().clear()
        rule.prices().append((9, 1))
        rule.prices()[0] = (5, 1)
        self.assertEqual(told_by(rule), before)

    def test_prices_changed_amid_a_run_change_nothing(self):
        asks = words("a b c a b c c a")
        watched = Watch(Dues(stock_of("a b2 c"), 3), lambda rule: rule.prices().clear())
        self.assertEqual(book_of(watched, asks), book_of(Dues(stock_of("a b2 c"), 3), asks))
        self.assertEqual(len(watched.rule.prices()), 8)

    def test_two_rules_side_by_side(self):
        stock = stock_of("a b2 c")
        one, other = Dues(stock, 3), Dues(stock, 3)
        book_of(one, words("a b c a b"))
        self.assertEqual(told_by(other), ((0, 1), [], []))
        kept = told_by(one)
        self.assertEqual(book_of(other, words("c c b a")), book_of(Dues(stock, 3), words("c c b a")))
        self.assertEqual(told_by(one), kept)
        self.assertNotEqual(told_by(other), kept)


if __name__ == "__main__":
    unittest.main()
