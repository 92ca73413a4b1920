import copy
import unittest

from castoff.books import check_asks, lying_after, missed_by, paid_by, weighed
from castoff.stock import Stock
from tests.helper import NO_PLACES, assert_refused, book_from, short_rows, stock_of


class TestCheckAsks(unittest.TestCase):
    def setUp(self):
        self.stock = stock_of("a b2 c3")

    def told(self, title, asks, places):
        refusal = assert_refused(self, title, check_asks, self.stock, asks, places)
        return (refusal.name, refusal.place)

    def test_nothing_refused(self):
        for asks, places in (([], 1), (["a"], 1), (["c", "b", "a", "c"], 3), (["c"] * 200, 10 ** 6)):
            self.assertIs(check_asks(self.stock, asks, places), True)
        self.assertIs(check_asks(Stock([]), [], 1), True)

    def test_no_places(self):
        for places in NO_PLACES:
            for asks in ([], ["a"], ["z"], ["c"], ["a"] * 201, ["z"] * 201):
                assert_refused(self, "NoNumber", check_asks, self.stock, asks, places)

    def test_two_hundred_and_one_more(self):
        for name in "abc":
            self.assertIs(check_asks(self.stock, [name] * 199, 3), True)
            self.assertIs(check_asks(self.stock, [name] * 200, 3), True)
            for many in (201, 202, 1000):
                assert_refused(self, "TooMany", check_asks, self.stock, [name] * many, 3)

    def test_too_many_goes_ahead_of_the_names(self):
        for asks in (["z"] * 201, ["c"] * 201, ["z", "c"] + ["a"] * 199, ["c", "z"] + ["a"] * 199):
            assert_refused(self, "TooMany", check_asks, self.stock, asks, 2)
            assert_refused(self, "TooMany", check_asks, self.stock, asks, 1)

    def test_unknown(self):
        self.assertEqual(self.told("Unknown", ["z"], 3), ("z", 0))
        self.assertEqual(self.told("Unknown", ["a", "b", "y", "z"], 3), ("y", 2))
        self.assertEqual(self.told("Unknown", ["a"] * 199 + ["z"], 3), ("z", 199))
        for text in ("", "A", "a ", "aa", "x" * 100, "\ud800"):
            self.assertEqual(self.told("Unknown", ["a", text], 3), (text, 1))

    def test_too_wide(self):
        self.assertEqual(self.told("TooWide", ["c"], 2), ("c", 0))
        self.assertEqual(self.told("TooWide", ["a", "b", "a", "c"], 2), ("c", 3))
        self.assertEqual(self.told("TooWide", ["a", "b", "a", "c"], 1), ("b", 1))
        self.assertEqual(self.told("TooWide", ["a"] * 199 + ["c"], 2), ("c", 199))
        self.assertIs(check_asks(self.stock, ["a", "b"], 2), True)
        self.assertIs(check_asks(Stock([("w", 1, 1000)]), ["w"], 1000), True)
        assert_refused(self, "TooWide", check_asks, Stock([("w", 1, 1000)]), ["w"], 999)

    def test_of_two_bad_asks_the_first_tells(self):
        self.assertEqual(self.told("Unknown", ["a", "z", "c"], 2), ("z", 1))
        self.assertEqual(self.told("TooWide", ["a", "c", "z"], 2), ("c", 1))
        self.assertEqual(self.told("TooWide", ["c", "b"], 1), ("c", 0))

    def test_what_is_handed_in_stays_as_it_was(self):
        for asks in (["a", "b", "c"], ["a", "z"], ["c"], ["a"] * 201):
            before = list(asks)
            for places in (2, 3, 0):
                try:
                    check_asks(self.stock, asks, places)
                except ValueError:
                    pass
                self.assertEqual(asks, before)


class TestWalk(unittest.TestCase):
    def setUp(self):
        self.stock = stock_of("a b2 c3 d")

    def walk(self, asks, places, book):
        return lying_after(self.stock, asks.split(), places, book_from(book))

    def assert_bad(self, asks, places, book, place):
        refusal = assert_refused(self, "BadBook", self.walk, asks, places, book)
        self.assertEqual(refusal.place, place)

    def test_what_lies_behind_each_ask(self):
        self.assertEqual(
            self.walk("a b a c d b", 4, "a- b- a+ c-b d-a b-c"),
            [["a"], ["a", "b"], ["a", "b"], ["a", "c"], ["c", "d"], ["d", "b"]],
        )

    def test_one_cast_off_comes_back_at_the_end(self):
        self.assertEqual(self.walk("a d a", 2, "a- d- a+"), [["a"], ["a", "d"], ["a", "d"]])
        self.assertEqual(self.walk("a d b a", 4, "a- d- b-a a-"), [["a"], ["a", "d"], ["d", "b"], ["d", "b", "a"]])

    def test_no_asks(self):
        self.assertEqual(lying_after(self.stock, [], 1, []), [])
        self.assertEqual(lying_after(Stock([]), [], 10 ** 6, []), [])

    def test_one_place_and_a_million(self):
        self.assertEqual(self.walk("a d a", 1, "a- d-a a-d"), [["a"], ["d"], ["a"]])
        self.assertEqual(self.walk("a b c d", 10 ** 6, "a- b- c- d-")[3], ["a", "b", "c", "d"])

    def test_more_cast_off_than_is_needed(self):
        self.assertEqual(self.walk("a b d", 6, "a- b- d-b,a"), [["a"], ["a", "b"], ["d"]])
        self.assertEqual(self.walk("a d b", 10 ** 6, "a- d-a b-d"), [["a"], ["d"], ["b"]])

    def test_things_cast_off_at_a_hit(self):
        self.assertEqual(self.walk("a b d a", 6, "a- b- d- a+d,b"), [["a"], ["a", "b"], ["a", "b", "d"], ["a"]])

    def test_room_just_enough_behind_the_going(self):
        self.assertEqual(self.walk("a d c", 4, "a- d- c-a"), [["a"], ["a", "d"], ["d", "c"]])
        self.assertEqual(self.walk("c a", 4, "c- a-"), [["c"], ["c", "a"]])

    def test_too_little_room(self):
        self.assert_bad("c b", 4, "c- b-", 1)
        self.assert_bad("a d c", 4, "a- d- c-", 2)
        self.assert_bad("a d b c", 4, "a- d- b- c-a", 3)
        self.assert_bad("a d", 1, "a- d-", 1)

    def test_another_name(self):
        self.assert_bad("a b", 6, "b- b-", 0)
        self.assert_bad("a b", 6, "a- d-", 1)
        self.assert_bad("a b", 6, "a- zz-", 1)
        self.assert_bad("a a", 6, "a- b+", 1)

    def test_the_other_truth(self):
        self.assert_bad("a b", 6, "a+ b-", 0)
        self.assert_bad("a b", 6, "a- b+", 1)
        self.assert_bad("a b a", 6, "a- b- a-", 2)
        self.assert_bad("a b a", 3, "a- b-a a+", 2)

    def test_the_asked_thing_among_those_that_go(self):
        self.assert_bad("a a", 6, "a- a+a", 1)
        self.assert_bad("a a", 6, "a- a-a", 1)
        self.assert_bad("a b a", 6, "a- b- a+b,a", 2)
        self.assert_bad("a", 6, "a-a", 0)

    def test_one_that_goes_twice(self):
        self.assert_bad("a b d", 6, "a- b- d-a,a", 2)
        self.assert_bad("a b d", 6, "a- b- d-a,b,a", 2)
        self.assert_bad("a b b", 6, "a- b- b+a,a", 2)

    def test_one_that_does_not_lie_there(self):
        self.assert_bad("a b", 6, "a- b-d", 1)
        self.assert_bad("a", 6, "a-b", 0)
        self.assert_bad("a b b", 6, "a- b- b+d", 2)
        self.assert_bad("a b", 6, "a- b-zz", 1)
        self.assert_bad("a b d", 6, "a- b-a d-a", 2)
        self.assert_bad("a b d", 6, "a- b- d-a,zz", 2)

    def test_a_book_too_short(self):
        self.assert_bad("a", 6, "", 0)
        self.assert_bad("a b", 6, "a-", 1)
        self.assert_bad("a b a d", 6, "a- b-", 2)

    def test_a_book_too_long(self):
        self.assert_bad("", 6, "a-", 0)
        self.assert_bad("a", 6, "a- a+", 1)
        self.assert_bad("a", 6, "a- b- c-", 1)
        self.assert_bad("a b", 6, "a- b- a+ b+ a+", 2)

    def test_rows_at_fault_behind_the_end_of_the_asks(self):
        self.assert_bad("a b", 6, "a- b- zz+zz", 2)

    def test_a_row_at_fault_in_a_book_of_another_length(self):
        self.assert_bad("a b d", 6, "a- b+", 1)
        self.assert_bad("a b", 6, "a+ b- d-", 0)

    def test_of_two_rows_at_fault_the_first_tells(self):
        self.assert_bad("a b d", 6, "a- b+ d+", 1)
        self.assert_bad("a b d", 6, "b- b- d-d", 0)
        self.assert_bad("a b d a", 6, "a- b- d-d a-", 2)

    def test_a_faulty_row_that_would_make_later_ones_faulty(self):
        self.assert_bad("a b a", 3, "a- b- a-", 2)
        self.assert_bad("a b a", 2, "a- b- a+", 1)

    def test_refused_as_the_asks_are_whatever_the_book_tells(self):
        stock = self.stock
        for book in ([], book_from("z-"), book_from("a+a"), book_from("a-") * 300):
            for places in NO_PLACES:
                assert_refused(self, "NoNumber", lying_after, stock, ["a"], places, book)
            assert_refused(self, "TooMany", lying_after, stock, ["z"] * 201, 2, book)
            refusal = assert_refused(self, "Unknown", lying_after, stock, ["a", "z", "c"], 2, book)
            self.assertEqual((refusal.name, refusal.place), ("z", 1))
            refusal = assert_refused(self, "TooWide", lying_after, stock, ["a", "c", "z"], 2, book)
            self.assertEqual((refusal.name, refusal.place), ("c", 1))

    def test_two_hundred_asks(self):
        asks = ["a", "d"] * 100
        book = book_from("a- d-a" + " a-d d-a" * 99)
        self.assertEqual(lying_after(self.stock, asks, 1, book), [["a"], ["d"]] * 100)
        self.assertEqual(len(lying_after(self.stock, asks, 2, book_from("a- d-" + " a+ d+" * 99))), 200)


class TestEveryShortBook(unittest.TestCase):
    """Books of every shape over two things and one or two places, against the words of point 13."""

    ROWS = [(name, there, gone) for name in "ab" for there in (True, False) for gone in short_rows("abz", 2)]

    def at_fault(self, lying, ask, places, row):
        name, there, gone = row
        if name != ask or there != (ask in lying) or len(set(gone)) < len(gone):
            return True
        if ask in gone or not set(gone) <= set(lying):
            return True
        return not there and len(lying) - len(gone) + 1 > places

    def expected(self, asks, places, book):
        lying, told = [], []
        for number, (ask, row) in enumerate(zip(asks, book)):
            if self.at_fault(lying, ask, places, row):
                return number
            lying = [name for name in lying if name not in row[2]] + ([] if row[1] else [ask])
            told.append(lying)
        return told

    def test_two_rows(self):
        stock = stock_of("a b")
        for places in (1, 2):
            for asks in (["a", "a"], ["a", "b"]):
                for one in self.ROWS:
                    for other in self.ROWS if one == ("a", False, []) else self.ROWS[:1]:
                        told = self.expected(asks, places, [one, other])
                        if isinstance(told, list):
                            self.assertEqual(lying_after(stock, asks, places, [one, other]), told)
                        else:
                            bad = assert_refused(self, "BadBook", lying_after, stock, asks, places, [one, other])
                            self.assertEqual(bad.place, told)


class TestWeighing(unittest.TestCase):
    def test_a_lawful_book(self):
        stock = stock_of("a b c")
        book = book_from("a- b- a+ c-b a+ b-a a-c")
        self.assertEqual(missed_by(book), 5)
        self.assertEqual(paid_by(stock, book), 1 + 10 + 100 + 10 + 1)
        self.assertEqual(weighed(book, {"a": 5, "b": -7, "c": 0}.get), 5 - 7 + 0 - 7 + 5)

    def test_no_rows_and_no_misses(self):
        for book in ([], book_from("a+ b+")):
            self.assertEqual(missed_by(book), 0)
            self.assertEqual(paid_by(stock_of("a b"), book), 0)
            self.assertEqual(weighed(book, lambda name: 1 // 0), 0)
            self.assertEqual(paid_by(Stock([]), book), 0)

    def test_great_costs(self):
        stock = Stock([("a", 10 ** 30, 1), ("b", 0, 1)])
        self.assertEqual(paid_by(stock, book_from("a- b- a- b+ a+")), 2 * 10 ** 30)
        self.assertEqual(weighed(book_from("a- a-"), lambda name: -10 ** 30), -2 * 10 ** 30)

    def test_answers_are_whole_numbers(self):
        stock = stock_of("a b")
        for book in ([], book_from("a-"), book_from("a+")):
            for answer in (missed_by(book), paid_by(stock, book), weighed(book, stock.cost_of)):
                self.assertIs(type(answer), int)

    def test_a_book_that_is_not_lawful(self):
        book = book_from("zz- a+a a- a-b,b zz+ zz- b-b")
        self.assertEqual(missed_by(book), 5)
        self.assertEqual(weighed(book, len), 2 + 1 + 1 + 2 + 1)
        self.assertEqual(paid_by(stock_of("a b"), book_from("a+z b-b,b a-z b- zz+")), 10 + 1 + 10)

    def test_unknown_tells_the_first_missed_name(self):
        stock = stock_of("a b")
        for text, name in (("zz-", "zz"), ("a- yy- zz-", "yy"), ("zz+ a- yy- b-", "yy"), ("a- b- a- zz-", "zz")):
            refusal = assert_refused(self, "Unknown", paid_by, stock, book_from(text))
            self.assertEqual((refusal.name, refusal.place), (name, -1))
        self.assertEqual(paid_by(stock, book_from("zz+ a-zz")), 1)

    def test_the_function_is_asked_once_for_each_miss_in_order(self):
        asked = []

        def weigh(name):
            asked.append(name)
            return len(asked)

        self.assertEqual(weighed(book_from("b- a- a+ c+ b-a zz- c-b"), weigh), 1 + 2 + 3 + 4 + 5)
        self.assertEqual(asked, ["b", "a", "b", "zz", "c"])

    def test_names_of_more_rows_than_a_row_of_asks_may_have(self):
        self.assertEqual(missed_by(book_from("a-") * 300), 300)
        self.assertEqual(paid_by(stock_of("a b"), book_from("b-") * 300), 3000)


class TestCopies(unittest.TestCase):
    def test_what_is_handed_in_stays_as_it_was(self):
        stock = stock_of("a b2 c3 d")
        for text in ("a- b- a+ c-b", "a- b- a+ c-", "a- b- a+ c-b d-", "a-"):
            asks = "a b a c".split()
            book = book_from(text)
            before = copy.deepcopy((asks, book))
            try:
                lying_after(stock, asks, 4, book)
            except ValueError:
                pass
            missed_by(book)
            paid_by(stock, book)
            weighed(book, stock.room_of)
            self.assertEqual((asks, book), before)

    def test_lists_told_are_apart(self):
        stock = stock_of("a b c")
        asks = "a a b a".split()
        book = book_from("a- a+ b- a+")
        told = lying_after(stock, asks, 3, book)
        told[0].append("c")
        told[2].clear()
        self.assertEqual(told, [["a", "c"], ["a"], [], ["a", "b"]])
        told.clear()
        self.assertEqual(lying_after(stock, asks, 3, book), [["a"], ["a"], ["a", "b"], ["a", "b"]])
        self.assertEqual(book, book_from("a- a+ b- a+"))

    def test_the_same_again(self):
        stock = stock_of("a b2 c3 d")
        asks = "a b a c".split()
        book = book_from("a- b- a+ c-b")
        self.assertEqual(lying_after(stock, asks, 4, book), lying_after(stock, asks, 4, book))
        self.assertEqual(paid_by(stock, book), paid_by(stock, book))
        self.assertEqual(missed_by(book), missed_by(book))


if __name__ == "__main__":
    unittest.main()
