import unittest

from castoff.shelf import Shelf
from castoff.stock import Stock
from tests.helper import NO_PLACES, assert_refused, stock_of

STRANGE_TEXTS = ("", "z", "A", "a ", " a", "aa", "abcdefghi", "1a", "\u00e4", "\ud800", "a\n", "x" * 1000)


def told(shelf):
    return (shelf.lying(), shelf.room_left(), shelf.places, shelf.stock.names())


class TestMaking(unittest.TestCase):
    def test_fields_are_as_handed_in(self):
        stock = stock_of("a b2")
        shelf = Shelf(stock, 7)
        self.assertIs(shelf.stock, stock)
        self.assertEqual(shelf.places, 7)

    def test_it_begins_empty(self):
        shelf = Shelf(stock_of("a b2"), 7)
        self.assertEqual(shelf.lying(), [])
        self.assertEqual(shelf.room_left(), 7)
        self.assertIs(shelf.holds("a"), False)

    def test_bounds_of_places(self):
        for places in (1, 2, 999999, 10 ** 6):
            self.assertEqual(Shelf(stock_of("a"), places).room_left(), places)

    def test_no_places(self):
        for places in NO_PLACES:
            assert_refused(self, "NoNumber", Shelf, stock_of("a"), places)
            assert_refused(self, "NoNumber", Shelf, Stock([]), places)

    def test_a_shelf_narrower_than_its_things(self):
        shelf = Shelf(stock_of("a2 b"), 1)
        assert_refused(self, "Full", shelf.put, "a")
        shelf.put("b")
        self.assertEqual(told(shelf), (["b"], 0, 1, ["a", "b"]))

    def test_two_shelves_of_one_stock_are_apart(self):
        stock = stock_of("a b")
        one = Shelf(stock, 2)
        other = Shelf(stock, 2)
        one.put("a")
        other.put("b")
        self.assertEqual((one.lying(), other.lying()), (["a"], ["b"]))


class TestPutting(unittest.TestCase):
    def setUp(self):
        self.shelf = Shelf(stock_of("a b2 c3 d1000"), 6)

    def test_in_the_order_put_on(self):
        for name, left in (("c", 3), ("a", 2), ("b", 0)):
            self.shelf.put(name)
            self.assertEqual(self.shelf.room_left(), left)
            self.assertIs(self.shelf.holds(name), True)
        self.assertEqual(self.shelf.lying(), ["c", "a", "b"])

    def test_one_that_fills_the_shelf_to_its_end(self):
        self.shelf.put("b")
        self.shelf.put("a")
        self.shelf.put("c")
        self.assertEqual(told(self.shelf)[:2], (["b", "a", "c"], 0))
        wide = Shelf(stock_of("d1000 a"), 1000)
        wide.put("d")
        self.assertEqual(wide.room_left(), 0)
        assert_refused(self, "Full", wide.put, "a")

    def test_one_place_too_few(self):
        shelf = Shelf(stock_of("a b2 c3"), 5)
        shelf.put("c")
        shelf.put("a")
        assert_refused(self, "Full", shelf.put, "b")
        self.assertEqual(told(shelf)[:2], (["c", "a"], 1))

    def test_unknown(self):
        self.shelf.put("a")
        for text in STRANGE_TEXTS:
            refusal = assert_refused(self, "Unknown", self.shelf.put, text)
            self.assertEqual((refusal.name, refusal.place), (text, -1))
            self.assertIs(self.shelf.holds(text), False)
        self.assertEqual(told(self.shelf)[:2], (["a"], 5))

    def test_unknown_on_a_shelf_without_room(self):
        for name in "abc":
            self.shelf.put(name)
        assert_refused(self, "Unknown", self.shelf.put, "z")

    def test_there(self):
        self.shelf.put("a")
        self.shelf.put("b")
        assert_refused(self, "There", self.shelf.put, "a")
        assert_refused(self, "There", self.shelf.put, "b")
        self.assertEqual(told(self.shelf)[:2], (["a", "b"], 3))

    def test_there_though_there_is_no_room(self):
        for name in "abc":
            self.shelf.put(name)
        for name in "abc":
            assert_refused(self, "There", self.shelf.put, name)
        self.assertEqual(told(self.shelf)[:2], (["a", "b", "c"], 0))

    def test_full(self):
        assert_refused(self, "Full", self.shelf.put, "d")
        self.shelf.put("c")
        self.shelf.put("b")
        assert_refused(self, "Full", self.shelf.put, "d")
        self.assertEqual(told(self.shelf)[:2], (["c", "b"], 1))


class TestCasting(unittest.TestCase):
    def setUp(self):
        self.shelf = Shelf(stock_of("a b2 c3 d4"), 6)
        for name in "abc":
            self.shelf.put(name)

    def test_what_is_cast_off_gives_its_room_back(self):
        for name, lying, left in (("b", ["a", "c"], 2), ("a", ["c"], 3), ("c", [], 6)):
            self.shelf.cast(name)
            self.assertEqual(told(self.shelf)[:2], (lying, left))
            self.assertIs(self.shelf.holds(name), False)

    def test_cast_off_and_put_on_again(self):
        self.shelf.cast("a")
        self.shelf.put("a")
        self.assertEqual(told(self.shelf)[:2], (["b", "c", "a"], 0))
        self.shelf.cast("c")
        self.shelf.put("c")
        self.assertEqual(self.shelf.lying(), ["b", "a", "c"])

    def test_what_does_not_lie_there(self):
        self.shelf.cast("b")
        for text in ("b", "d", *STRANGE_TEXTS):
            assert_refused(self, "NotThere", self.shelf.cast, text)
        self.assertEqual(told(self.shelf)[:2], (["a", "c"], 2))

    def test_from_an_empty_shelf(self):
        shelf = Shelf(Stock([]), 1)
        assert_refused(self, "NotThere", shelf.cast, "a")
        self.assertEqual(told(shelf), ([], 1, 1, []))


class TestTelling(unittest.TestCase):
    def test_texts_of_any_form(self):
        shelf = Shelf(stock_of("a b"), 2)
        shelf.put("a")
        for text in STRANGE_TEXTS:
            self.assertIs(shelf.holds(text), False)
        self.assertIs(shelf.holds("a"), True)
        self.assertIs(shelf.holds("b"), False)

    def test_the_list_told_may_be_changed(self):
        shelf = Shelf(stock_of("a b c"), 3)
        shelf.put("b")
        shelf.put("a")
        lying = shelf.lying()
        lying.reverse()
        lying.append("c")
        self.assertEqual(told(shelf)[:2], (["b", "a"], 1))
        self.assertIs(shelf.holds("c"), False)
        lying.clear()
        self.assertEqual(shelf.lying(), ["b", "a"])

    def test_a_list_told_earlier_stays(self):
        shelf = Shelf(stock_of("a b c"), 3)
        shelf.put("a")
        lying = shelf.lying()
        shelf.put("b")
        shelf.cast("a")
        self.assertEqual(lying, ["a"])

    def test_the_same_again(self):
        shelf = Shelf(stock_of("a b2 c"), 3)
        shelf.put("b")
        self.assertEqual(told(shelf), told(shelf))
        self.assertEqual(told(shelf), (["b"], 1, 3, ["a", "b", "c"]))

    def test_sixty_things(self):
        stock = Stock([(f"t{number}", 0, 1000) for number in range(60)])
        shelf = Shelf(stock, 60000)
        for name in reversed(stock.names()):
            shelf.put(name)
        self.assertEqual(told(shelf)[:2], (stock.names()[::-1], 0))


if __name__ == "__main__":
    unittest.main()
