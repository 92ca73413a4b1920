import copy
import unittest

from castoff.stock import Stock, is_name
from tests.helper import assert_refused

OTHER_KINDS = (None, True, False, 1.5, [], ["a"], (), ("a",), {}, {"a": 1}, b"a", object())
NO_COSTS = (-1, 10 ** 30 + 1, True, False, None, "3", 3.0, [3], (3,), {})
NO_ROOMS = (0, 1001, -1, True, False, None, "1", 1.0, [1], (1,), {})
STRANGE_TEXTS = ("", "z", "A", "a ", " a", "aa", "abcdefghi", "1a", "\u00e4", "a\n", "x" * 1000)


def rows_of(many):
    return [(f"t{number}", number, 1 + number) for number in range(many)]


def told(stock):
    return [(name, stock.cost_of(name), stock.room_of(name)) for name in stock.names()]


class TestName(unittest.TestCase):
    def test_names(self):
        for thing in ("a", "z", "a0", "z9", "abcdefgh", "a1234567", "m", "b0b", "x00"):
            self.assertIs(is_name(thing), True, thing)

    def test_every_letter_and_figure(self):
        for sign in "abcdefghijklmnopqrstuvwxyz":
            self.assertIs(is_name(sign), True)
            self.assertIs(is_name("a" + sign), True)
        for sign in "0123456789":
            self.assertIs(is_name(sign), False)
            self.assertIs(is_name("a" + sign), True)

    def test_no_other_sign_of_the_first_thousand(self):
        good = "abcdefghijklmnopqrstuvwxyz0123456789"
        for number in range(1000):
            if chr(number) not in good:
                self.assertIs(is_name(chr(number)), False, number)
                self.assertIs(is_name("a" + chr(number)), False, number)
                self.assertIs(is_name("a" + chr(number) + "b"), False, number)

    def test_lengths(self):
        for many in range(12):
            self.assertIs(is_name("a" * many), 1 <= many <= 8, many)

    def test_signs_beyond_ascii(self):
        for sign in ("\u00e4", "\u00df", "\u0430", "\uff41", "\u0663", "\u00b2", "\uff11", "\U0001d41a", "\ud800"):
            self.assertIs(is_name(sign), False)
            self.assertIs(is_name("a" + sign), False)

    def test_texts_that_are_none(self):
        for thing in ("", "1", "1a", "A", "aB", "Abc", "a b", " a", "a ", "a\n", "a-b", "a_b", "_a", "a;", "abcdefghi"):
            self.assertIs(is_name(thing), False, repr(thing))

    def test_things_of_other_kinds(self):
        for thing in (0, 1, *OTHER_KINDS, ["a", "b"], str):
            self.assertIs(is_name(thing), False, repr(thing))


class TestTelling(unittest.TestCase):
    def test_what_a_stock_tells(self):
        stock = Stock([("b", 10, 2), ("a", 3, 1), ("c9", 0, 1000)])
        self.assertEqual(stock.names(), ["b", "a", "c9"])
        self.assertEqual([stock.number_of(name) for name in ("b", "a", "c9")], [0, 1, 2])
        self.assertEqual([stock.cost_of(name) for name in ("b", "a", "c9")], [10, 3, 0])
        self.assertEqual([stock.room_of(name) for name in ("b", "a", "c9")], [2, 1, 1000])
        for name in ("b", "a", "c9"):
            self.assertIs(stock.has(name), True)

    def test_the_same_again(self):
        stock = Stock(rows_of(5))
        self.assertEqual(told(stock), told(stock))
        self.assertEqual(told(Stock(rows_of(5))), told(Stock(rows_of(5))))
        self.assertEqual(told(stock), rows_of(5))

    def test_without_things(self):
        stock = Stock([])
        self.assertEqual(stock.names(), [])
        self.assertIs(stock.has("a"), False)
        assert_refused(self, "Unknown", stock.number_of, "a")

    def test_sixty_things(self):
        stock = Stock(rows_of(60))
        self.assertEqual(told(stock), rows_of(60))
        self.assertEqual(stock.number_of("t59"), 59)

    def test_two_stocks_are_apart(self):
        one = Stock([("a", 1, 1)])
        other = Stock([("b", 2, 2)])
        self.assertEqual((one.names(), other.names()), (["a"], ["b"]))
        self.assertIs(one.has("b"), False)

    def test_bounds_of_costs_and_rooms(self):
        for cost in (0, 1, 10 ** 30):
            self.assertEqual(Stock([("a", cost, 1)]).cost_of("a"), cost)
        for room in (1, 2, 1000):
            self.assertEqual(Stock([("a", 1, room)]).room_of("a"), room)

    def test_a_text_that_no_thing_has(self):
        stock = Stock([("a", 3, 1), ("b", 10, 2)])
        for text in STRANGE_TEXTS:
            self.assertIs(stock.has(text), False)
            for method in (stock.number_of, stock.cost_of, stock.room_of):
                refusal = assert_refused(self, "Unknown", method, text)
                self.assertEqual((refusal.name, refusal.place), (text, -1))
        self.assertEqual(told(stock), [("a", 3, 1), ("b", 10, 2)])


class TestCopies(unittest.TestCase):
    def test_what_is_handed_in_stays_as_it_was(self):
        rows = rows_of(7)
        before = copy.deepcopy(rows)
        Stock(rows)
        self.assertEqual(rows, before)

    def test_what_is_refused_stays_as_it_was(self):
        rows = [("a", 1, 1), ("b", 2, 2), ("a", 3, 3)]
        before = copy.deepcopy(rows)
        assert_refused(self, "Twice", Stock, rows)
        self.assertEqual(rows, before)

    def test_the_list_handed_in_may_be_changed(self):
        rows = rows_of(3)
        stock = Stock(rows)
        rows.append(("z", 1, 1))
        rows[0] = ("y", 5, 5)
        self.assertEqual(told(stock), rows_of(3))
        rows.clear()
        self.assertEqual(told(stock), rows_of(3))

    def test_the_list_of_names_may_be_changed(self):
        stock = Stock(rows_of(3))
        names = stock.names()
        names.reverse()
        names.append("z")
        self.assertEqual(stock.names(), ["t0", "t1", "t2"])
        self.assertIs(stock.has("z"), False)
        names.clear()
        self.assertEqual(told(stock), rows_of(3))


class TestRefusals(unittest.TestCase):
    def test_more_than_sixty(self):
        for many in (61, 62, 200):
            assert_refused(self, "TooMany", Stock, rows_of(many))

    def test_more_than_sixty_goes_ahead_of_bad_things(self):
        assert_refused(self, "TooMany", Stock, [("", None, None)] * 61)
        assert_refused(self, "TooMany", Stock, [("a", 1, 1)] * 61)

    def test_no_name(self):
        for name in ("", "A", "1a", "a b", "abcdefghi", "\u00e4", 1, *OTHER_KINDS):
            assert_refused(self, "NoName", Stock, [(name, 1, 1)])
            assert_refused(self, "NoName", Stock, [("a", 1, 1), (name, 1, 1)])

    def test_twice(self):
        assert_refused(self, "Twice", Stock, [("a", 1, 1), ("a", 1, 1)])
        assert_refused(self, "Twice", Stock, [("a", 1, 1), ("b", 1, 1), ("a", 2, 2)])

    def test_no_cost(self):
        for cost in NO_COSTS:
            assert_refused(self, "NoNumber", Stock, [("a", cost, 1)])
            assert_refused(self, "NoNumber", Stock, [("b", 1, 1), ("a", cost, 1)])

    def test_no_room(self):
        for room in NO_ROOMS:
            assert_refused(self, "NoNumber", Stock, [("a", 1, room)])
            assert_refused(self, "NoNumber", Stock, [("b", 1, 1), ("a", 1, room)])

    def test_a_thing_bad_in_several_ways(self):
        assert_refused(self, "NoName", Stock, [("A", -1, 0)])
        assert_refused(self, "NoName", Stock, [([], None, [])])
        assert_refused(self, "NoName", Stock, [("a", 1, 1), ("A", 1, 0)])
        assert_refused(self, "Twice", Stock, [("a", 1, 1), ("a", -1, 0)])
        assert_refused(self, "Twice", Stock, [("a", 1, 1), ("a", 1, None)])
        assert_refused(self, "NoNumber", Stock, [("a", -1, 0)])

    def test_of_two_bad_things_the_first_tells(self):
        assert_refused(self, "NoNumber", Stock, [("a", -1, 1), ("A", 1, 1)])
        assert_refused(self, "NoNumber", Stock, [("a", 1, 0), ("a", 1, 1)])
        assert_refused(self, "NoName", Stock, [("A", 1, 1), ("a", -1, 1)])
        assert_refused(self, "NoName", Stock, [("b", 1, 1), ("", 1, 1), ("b", 1, 1)])
        assert_refused(self, "Twice", Stock, [("b", 1, 1), ("b", 1, 1), ("", 1, 1)])
        assert_refused(self, "Twice", Stock, [("b", 1, 1), ("b", 1, 1), ("c", -1, 1)])


if __name__ == "__main__":
    unittest.main()
