"""Rules by their words, and what a lesser shelf holds that a greater one does not, by runs made by hand."""

import itertools
import random
import unittest

from castoff.books import missed_by
from castoff.dues import Dues
from castoff.nests import first_lack, first_row, maker_of, worse_row
from castoff.rules import Farthest, First, Halving, Oldest, Rule, book_of
from castoff.stock import Stock, is_name
from castoff.turns import Hand, Rows
from tests.helper import (
    NO_PLACES, assert_refused, drawn_case, short_rows, stock_of, wide_stock, widest_of, words,
)

KINDS = {
    "oldest": Oldest, "first": First, "halving": Halving, "farthest": Farthest, "hand": Hand, "rows": Rows,
    "dues": Dues,
}
# Whatever names no rule, of whatever kind it is.
NO_WORDS = (
    "newest", "old", "oldestt", "xyz", "rule", "ranked", "a", "first ", " first", "First", "OLDEST", "hand\n", "",
    None, 0, 1, 7, 10 ** 5000, True, False, ["first"], [], ("first",), (), {}, {"first": 1}, 1.0, b"first", object(),
    Oldest,
)
# Whatever is no number from 2 to 10 ** 6, of whatever kind it is.
NO_GREATER = (1,) + NO_PLACES


class LastGoes(Rule):
    def choice(self, lying):
        return lying[-1]


def first_or_last(stock, places, asks):
    """A maker that goes by the places: with four of them the first goes, else the last."""
    return Rule(stock, places) if places == 4 else LastGoes(stock, places)


def by_the_row(stock, places, asks):
    """A maker that goes by the row: where it begins with a the first goes, else the last with more than two places."""
    return Rule(stock, places) if asks[:1] == ["a"] or places == 2 else LastGoes(stock, places)


def spoiling(stock, places, asks):
    """A maker that changes the row that it is handed."""
    rule = Farthest(stock, places, asks)
    asks.reverse()
    asks.append("spoiled")
    return rule


class Written:
    """A maker that writes down how it is called, and hands all on to another one."""

    def __init__(self, make):
        self.make = make
        self.calls = []

    def __call__(self, stock, places, asks):
        self.calls.append((stock, places, list(asks)))
        return self.make(stock, places, asks)


def shelves_by_hand(rule, asks):
    """What lies on the shelf behind each ask, by the rule's own choices, without a book."""
    shelf = []
    told = []
    for name in asks:
        rule.asked(name)
        if name not in shelf:
            while sum(map(rule.stock.room_of, shelf)) + rule.stock.room_of(name) > rule.places:
                goes = rule.choice(list(shelf))
                shelf.remove(goes)
                rule.gone(goes)
            shelf.append(name)
            rule.came(name)
        told.append(set(shelf))
    return told


def lack_by_hand(stock, asks, lesser, greater, make):
    shelves = [shelves_by_hand(make(stock, places, list(asks)), asks) for places in (lesser, greater)]
    for number in range(len(asks)):
        if not shelves[0][number] <= shelves[1][number]:
            return (number, sorted(shelves[0][number] - shelves[1][number]))
    return None


def searched_rows(many, long):
    """All rows of a search, in its order, out of all rows there are."""
    names = "abcd"[:many]
    told = []
    for size in range(1, long + 1):
        for row in itertools.product(names, repeat=size):
            firsts = [name for number, name in enumerate(row) if name not in row[:number]]
            if firsts == sorted(firsts) and "".join(firsts) == names[:len(firsts)]:
                told.append(list(row))
    return told


class TestMakers(unittest.TestCase):
    def test_each_word(self):
        stock = stock_of("a b2 c")
        for word, kind in KINDS.items():
            rule = maker_of(word)(stock, 3, ["a", "b"])
            self.assertIs(type(rule), kind)
            self.assertIs(rule.stock, stock)
            self.assertEqual(rule.places, 3)

    def test_each_call_gives_a_new_object(self):
        stock = stock_of("a b c")
        asks = words("a b c a")
        for word in KINDS:
            make = maker_of(word)
            made = [make(stock, 2, asks), make(stock, 2, asks), maker_of(word)(stock, 2, asks)]
            self.assertEqual(len({id(rule) for rule in made}), 3)
            books = [book_of(rule, asks) for rule in made]
            self.assertEqual(books[0], books[1])
            self.assertEqual(books[0], books[2])

    def test_halving_has_the_turn_8(self):
        stock = stock_of("a b")
        rule = maker_of("halving")(stock, 2, [])
        for number in range(8):
            rule.asked("a")
        self.assertEqual(rule.counts(), {"a": 8})
        rule.asked("b")
        self.assertEqual(rule.counts(), {"a": 4, "b": 1})

    def test_farthest_ranks_for_the_row_handed_in(self):
        stock = stock_of("a b c")
        asks = words("b a b")
        rule = maker_of("farthest")(stock, 2, asks)
        # What is changed behind the making plays no part.
        asks.reverse()
        asks.append("c")
        self.assertEqual([rule.rank(name) for name in "abc"], [(-2, 0), (-1, 0), (-4, 0)])
        rule = maker_of("farthest")(stock, 2, words("c a"))
        self.assertEqual([rule.rank(name) for name in "abc"], [(-2, 0), (-3, 0), (-1, 0)])

    def test_the_books_are_those_of_the_rules(self):
        dice = random.Random(441)
        for _ in range(60):
            stock, asks = drawn_case(dice, 6, 30, 3)
            places = widest_of(stock, asks) + dice.randint(0, 4)
            for word, kind in KINDS.items():
                rule = kind(stock, places, asks) if word == "farthest" else kind(stock, places)
                self.assertEqual(book_of(maker_of(word)(stock, places, asks), asks), book_of(rule, asks))

    def test_refused_as_the_rule_refuses(self):
        stock = stock_of("a b3")
        for word in KINDS:
            for places in NO_PLACES:
                assert_refused(self, "NoNumber", maker_of(word), stock, places, ["a"])
                assert_refused(self, "NoNumber", maker_of(word), stock, places, ["a", "z"])

    def test_farthest_alone_looks_at_the_row(self):
        stock = stock_of("a b3")
        make = maker_of("farthest")
        assert_refused(self, "TooMany", make, stock, 2, ["z"] * 201)
        refusal = assert_refused(self, "Unknown", make, stock, 2, ["a", "z", "b"])
        self.assertEqual((refusal.name, refusal.place), ("z", 1))
        refusal = assert_refused(self, "TooWide", make, stock, 2, ["a", "a", "b", "z"])
        self.assertEqual((refusal.name, refusal.place), ("b", 2))
        for word in set(KINDS) - {"farthest"}:
            self.assertEqual(maker_of(word)(stock, 2, ["z", "b"] * 200).places, 2)

    def test_no_word(self):
        for word in NO_WORDS:
            assert_refused(self, "NoRule", maker_of, word)


class TestFirstLack(unittest.TestCase):
    def test_by_first(self):
        stock = stock_of("a b c d e")
        # With two places c and a go on, a and d are there at the end; with three a goes for d, having come first.
        self.assertEqual(first_lack(stock, words("a b c a d"), 2, 3, maker_of("first")), (4, ["a"]))
        # With three places a, b and e are there behind the seventh ask, with four b, c, d and e.
        asks = words("a b c d a b e a b c d e")
        self.assertEqual(first_lack(stock, asks, 3, 4, maker_of("first")), (6, ["a"]))
        self.assertIsNone(first_lack(stock, asks, 3, 5, maker_of("first")))

    def test_unlike_rooms(self):
        stock = stock_of("a b2 c")
        # With two places b went for a, and c has room beside it; with three a goes, for b is counted twice.
        self.assertEqual(first_lack(stock, words("b b a c"), 2, 3, maker_of("halving")), (3, ["a"]))
        # With two places there is room for a and c; with three a goes, for b is asked again and a is not.
        self.assertEqual(first_lack(stock, words("b a c b"), 2, 3, maker_of("farthest")), (2, ["a"]))
        self.assertEqual(first_lack(stock, words("b a c"), 2, 3, maker_of("dues")), (2, ["a"]))
        self.assertIsNone(first_lack(stock, words("b b a c"), 2, 4, maker_of("halving")))

    def test_all_names_and_sorted(self):
        # With four places e, d and w are left in this order; with five c, b, a and w.
        stock = stock_of("a b c d e w2")
        self.assertEqual(first_lack(stock, words("c b a e d w"), 4, 5, first_or_last), (5, ["d", "e"]))
        stock = wide_stock(10, lambda number: 3 if number == 9 else 1)
        asks = words("t0 t1 t2 t3 t8 t7 t6 t5 t4 t9")
        # Behind t9 the lesser holds t4, the greater t0, t1, t2, t3, t8 and t7.
        self.assertEqual(first_lack(stock, asks, 4, 9, first_or_last), (9, ["t4"]))

    def test_it_is_the_first_lack(self):
        stock = stock_of("a b c d e w2")
        asks = words("c b a e d w a b c d e w w")
        self.assertEqual(first_lack(stock, asks, 4, 5, first_or_last), (5, ["d", "e"]))
        self.assertIsNone(first_lack(stock, asks[:5], 4, 5, first_or_last))

    def test_a_maker_that_goes_by_the_row(self):
        stock = stock_of("a b c d")
        # With three places d comes in the stead of c; with two c stays beside it.
        self.assertEqual(first_lack(stock, words("b a c d"), 2, 3, by_the_row), (3, ["c"]))
        self.assertIsNone(first_lack(stock, words("a b c d"), 2, 3, by_the_row))

    def test_no_asks(self):
        for word in KINDS:
            for stock in (Stock([]), stock_of("a b2")):
                self.assertIsNone(first_lack(stock, [], 1, 1, maker_of(word)))
                self.assertIsNone(first_lack(stock, [], 1, 10 ** 6, maker_of(word)))

    def test_the_same_places_twice(self):
        dice = random.Random(452)
        for _ in range(60):
            stock, asks = drawn_case(dice, 6, 30, 3)
            places = widest_of(stock, asks) + dice.randint(0, 4)
            for word in KINDS:
                self.assertIsNone(first_lack(stock, asks, places, places, maker_of(word)))
        self.assertIsNone(first_lack(stock_of("a"), ["a", "a"], 10 ** 6, 10 ** 6, maker_of("hand")))

    def test_how_the_maker_is_called(self):
        stock = stock_of("a b c")
        asks = words("a b c a")
        for lesser, greater in ((1, 3), (2, 2)):
            make = Written(maker_of("first"))
            first_lack(stock, asks, lesser, greater, make)
            self.assertEqual([call[1:] for call in make.calls], [(lesser, asks), (greater, asks)])
            self.assertTrue(all(call[0] is stock for call in make.calls))

    def test_a_maker_may_change_its_row(self):
        stock = stock_of("a b2 c d")
        for asks in short_rows("abcd", 4):
            before = list(asks)
            told = first_lack(stock, asks, 2, 3, spoiling)
            self.assertEqual(asks, before)
            self.assertEqual(told, first_lack(stock, asks, 2, 3, maker_of("farthest")))

    def test_against_runs_by_hand(self):
        dice = random.Random(453)
        lacks = dict.fromkeys(list(KINDS) + [first_or_last, by_the_row], 0)
        for number in range(400):
            stock, asks = drawn_case(dice, 7, 40, 1 + number % 4)
            lesser = widest_of(stock, asks) + dice.randint(0, 4)
            greater = lesser + dice.randint(0, 4)
            before = list(asks)
            for word in lacks:
                make = maker_of(word) if word in KINDS else word
                lack = first_lack(stock, asks, lesser, greater, make)
                self.assertEqual(lack, lack_by_hand(stock, asks, lesser, greater, make))
                self.assertEqual(asks, before)
                lacks[word] += lack is not None
        # The drawn rows show a lack for each rule but the one that has none whatever the rooms are.
        self.assertEqual([word for word, many in lacks.items() if many == 0], ["oldest"])

    def test_the_list_is_the_askers_own(self):
        stock = stock_of("a b c d")
        asks = words("a b c a d")
        for _ in range(2):
            number, names = first_lack(stock, asks, 2, 3, maker_of("first"))
            self.assertIs(type(number), int)
            self.assertEqual((number, names), (4, ["a"]))
            names.append("z")

    def test_refused_as_the_asks_are(self):
        stock = stock_of("a b3")
        make = Written(maker_of("oldest"))
        for greater in (3, 10 ** 6) + NO_GREATER:
            for lesser in NO_PLACES:
                assert_refused(self, "NoNumber", first_lack, stock, ["z"] * 201, lesser, greater, make)
            assert_refused(self, "TooMany", first_lack, stock, ["z"] * 201, 2, greater, make)
            refusal = assert_refused(self, "Unknown", first_lack, stock, ["a", "z", "b"], 2, greater, make)
            self.assertEqual((refusal.name, refusal.place), ("z", 1))
            # The lesser shelf is looked at, whatever the greater one has room for.
            refusal = assert_refused(self, "TooWide", first_lack, stock, ["a", "a", "b", "z"], 2, greater, make)
            self.assertEqual((refusal.name, refusal.place), ("b", 2))
        self.assertEqual(make.calls, [])

    def test_no_greater_places(self):
        stock = stock_of("a b3")
        make = Written(maker_of("oldest"))
        for greater in NO_GREATER:
            assert_refused(self, "NoNumber", first_lack, stock, ["a"], 2, greater, make)
            assert_refused(self, "NoNumber", first_lack, stock, [], 2, greater, make)
        assert_refused(self, "NoNumber", first_lack, stock, ["a"], 10 ** 6, 10 ** 6 - 1, make)
        assert_refused(self, "NoNumber", first_lack, stock, ["a"], 10 ** 6, 10 ** 6 + 1, make)
        self.assertEqual(make.calls, [])
        self.assertIsNone(first_lack(stock, ["a"], 2, 10 ** 6, make))

    def test_two_hundred_asks(self):
        stock = stock_of("a b c d e")
        asks = words("a b c d a b e e") * 25
        self.assertEqual(first_lack(stock, asks, 3, 4, maker_of("first")), (6, ["a"]))
        self.assertIsNone(first_lack(stock, asks, 3, 4, maker_of("oldest")))


class TestRulesWithoutLack(unittest.TestCase):
    def hold(self, word, stock, asks, lesser, greater):
        make = maker_of(word)
        self.assertIsNone(first_lack(stock, asks, lesser, greater, make), (word, asks, lesser, greater))
        missed = [missed_by(book_of(make(stock, places, asks), asks)) for places in (lesser, greater)]
        self.assertLessEqual(missed[1], missed[0])

    def test_room_1(self):
        dice = random.Random(461)
        for _ in range(400):
            stock, asks = drawn_case(dice, 8, 60)
            lesser = dice.randint(1, 6)
            greater = lesser + dice.choice((0, 1, 1, 2, 5))
            for word in ("oldest", "halving", "farthest"):
                self.hold(word, stock, asks, lesser, greater)

    def test_short_rows(self):
        stock = stock_of("a b c d")
        for asks in short_rows("abcd", 5):
            for word in ("oldest", "halving", "farthest"):
                self.hold(word, stock, asks, 2, 3)

    def test_long_rows(self):
        stock = wide_stock(60, lambda number: 1)
        dice = random.Random(462)
        for _ in range(12):
            asks = [f"t{min(dice.randrange(60), dice.randrange(60))}" for _ in range(200)]
            for lesser, greater in ((1, 2), (7, 8), (20, 40), (59, 10 ** 6)):
                for word in ("oldest", "halving", "farthest"):
                    self.hold(word, stock, asks, lesser, greater)

    def test_oldest_whatever_the_rooms(self):
        dice = random.Random(463)
        for _ in range(600):
            stock, asks = drawn_case(dice, 8, 60, dice.choice((2, 3, 9, 1000)))
            lesser = widest_of(stock, asks) + dice.choice((0, 1, 2, 7))
            self.hold("oldest", stock, asks, lesser, lesser + dice.choice((0, 1, 2, 7, 1000)))


class TestFirstRow(unittest.TestCase):
    def test_rows_worked_by_hand(self):
        self.assertEqual(first_row(maker_of("first"), 4, 6, 2, 3), words("a b c a d"))
        self.assertEqual(first_row(maker_of("first"), 4, 5, 2, 3), words("a b c a d"))
        self.assertIsNone(first_row(maker_of("first"), 4, 4, 2, 3))
        self.assertIsNone(first_row(maker_of("first"), 3, 6, 2, 3))
        self.assertEqual(first_row(maker_of("hand"), 4, 6, 2, 3), words("a b c a d"))
        # With three places c goes for d, alone in its row; with two the bound had risen to 1 for b, and c stays.
        self.assertEqual(first_row(maker_of("rows"), 4, 6, 2, 3), words("a a b c b d"))

    def test_no_row(self):
        for word in ("oldest", "halving", "farthest"):
            for many in (1, 2, 3, 4):
                for long in (1, 6):
                    self.assertIsNone(first_row(maker_of(word), many, long, 2, 3))
        for word in KINDS:
            self.assertIsNone(first_row(maker_of(word), 4, 6, 1, 1))
            self.assertIsNone(first_row(maker_of(word), 4, 6, 4, 10 ** 6))
            self.assertIsNone(first_row(maker_of(word), 1, 1, 10 ** 6, 10 ** 6))

    def test_the_rows_that_are_gone_through(self):
        for many in (1, 2, 3, 4):
            for long in (1, 2, 3, 4, 5, 6):
                make = Written(maker_of("oldest"))
                self.assertIsNone(first_row(make, many, long, 1, 2))
                seen = [asks for stock, places, asks in make.calls]
                self.assertEqual(seen[::2], searched_rows(many, long))
                self.assertEqual(seen[1::2], searched_rows(many, long))
                self.assertEqual([places for stock, places, asks in make.calls], [1, 2] * (len(seen) // 2))

    def test_the_first_rows(self):
        make = Written(maker_of("oldest"))
        first_row(make, 3, 3, 1, 1)
        told = [" ".join(asks) for stock, places, asks in make.calls[::2]]
        self.assertEqual(told, ["a", "a a", "a b", "a a a", "a a b", "a b a", "a b b", "a b c"])

    def test_the_stock(self):
        for many in (1, 2, 3, 4):
            make = Written(maker_of("first"))
            first_row(make, many, 2, 1, 2)
            for stock, places, asks in make.calls:
                self.assertEqual(stock.names(), list("abcd"[:many]))
                self.assertEqual({stock.cost_of(name) for name in stock.names()}, {1})
                self.assertEqual({stock.room_of(name) for name in stock.names()}, {1})

    def test_against_a_search_by_hand(self):
        makers = [maker_of(word) for word in KINDS]
        makers.append(lambda stock, places, asks: Rule(stock, places) if places % 2 else LastGoes(stock, places))
        makers.append(by_the_row)
        stock = Stock([(name, 1, 1) for name in "abcd"])
        told = 0
        for make in makers:
            for lesser, greater in ((1, 2), (1, 3), (2, 2), (2, 3), (3, 4)):
                rows = [asks for asks in searched_rows(4, 6) if lack_by_hand(stock, asks, lesser, greater, make)]
                for many in (1, 2, 3, 4):
                    for long in (1, 2, 3, 4, 5, 6):
                        right = [asks for asks in rows if len(asks) <= long and max(asks) <= "abcd"[many - 1]]
                        answer = first_row(make, many, long, lesser, greater)
                        self.assertEqual(answer, right[0] if right else None)
                        told += answer is not None
        self.assertGreaterEqual(told, 10)

    def test_the_row_is_the_askers_own(self):
        for _ in range(2):
            row = first_row(maker_of("first"), 4, 6, 2, 3)
            self.assertEqual(row, words("a b c a d"))
            row.reverse()
            row.append("z")

    def test_a_maker_may_change_its_row(self):
        def spoil(stock, places, asks):
            asks.clear()
            return First(stock, places)
        self.assertEqual(first_row(spoil, 4, 6, 2, 3), words("a b c a d"))

    def test_numbers_that_are_none(self):
        make = Written(maker_of("first"))
        for other in (0, -1, True, False, None, "2", "", [2], (2,), {}, 2.0):
            assert_refused(self, "NoNumber", first_row, make, other, 2, 2, 3)
            assert_refused(self, "NoNumber", first_row, make, 2, other, 2, 3)
            assert_refused(self, "NoNumber", first_row, make, 2, 2, other, 3)
            assert_refused(self, "NoNumber", first_row, make, 2, 2, 2, other)
            assert_refused(self, "NoNumber", first_row, make, other, other, other, other)
        assert_refused(self, "NoNumber", first_row, make, 5, 2, 2, 3)
        assert_refused(self, "NoNumber", first_row, make, 2, 7, 2, 3)
        assert_refused(self, "NoNumber", first_row, make, 2, 2, 10 ** 6 + 1, 10 ** 6 + 1)
        assert_refused(self, "NoNumber", first_row, make, 2, 2, 10 ** 6 + 1, 10 ** 6 + 2)
        assert_refused(self, "NoNumber", first_row, make, 2, 2, 2, 10 ** 6 + 1)
        assert_refused(self, "NoNumber", first_row, make, 2, 2, 2, 1)
        assert_refused(self, "NoNumber", first_row, make, 2, 2, 10 ** 6, 10 ** 6 - 1)
        self.assertEqual(make.calls, [])


class TestWorseRow(unittest.TestCase):
    least = {"first": 3, "hand": 3, "rows": 2}

    def test_one_place_more_means_more_misses(self):
        for word, least in self.least.items():
            for places in range(least, 21):
                row = worse_row(word, places)
                self.assertIs(type(row), list)
                self.assertLessEqual(len(row), 200)
                self.assertTrue(all(is_name(name) for name in row))
                names = sorted(set(row))
                self.assertLessEqual(len(names), 60)
                stock = Stock([(name, 1, 1) for name in names])
                missed = [missed_by(book_of(KINDS[word](stock, many), row)) for many in (places, places + 1)]
                self.assertGreater(missed[1], missed[0], (word, places))

    def test_the_rows_that_the_document_tells(self):
        for word in ("first", "hand"):
            self.assertEqual(worse_row(word, 3), words("a b c d a b e a b c d e"))
        self.assertEqual(worse_row("rows", 2), words("a a b b c c d e d e a f g f g"))

    def test_the_row_is_the_askers_own(self):
        for word in self.least:
            row = worse_row(word, 5)
            before = list(row)
            row.clear()
            self.assertEqual(worse_row(word, 5), before)

    def test_no_places(self):
        for word, least in self.least.items():
            for places in (least - 1, 21, 1) + NO_PLACES:
                assert_refused(self, "NoNumber", worse_row, word, places)

    def test_no_word(self):
        for word in NO_WORDS + ("oldest", "halving", "farthest", "dues", "rows ", "Hand"):
            for places in (1, 2, 3, 20, 21) + NO_PLACES:
                assert_refused(self, "NoRule", worse_row, word, places)


if __name__ == "__main__":
    unittest.main()
