import unittest

from castoff.stock import Stock
from castoff.words import read_asks, read_number, read_stock, show_asks, show_stock
from tests.helper import assert_refused

# Signs that Python itself takes for a figure, a blank or a part of a number.
STRANGE_SIGNS = ("\u0663", "\uff11", "\u00b2", "\u2460", "\u00a0", "\u2003", "\t", "\n", "\r", "\x00", "_", ".", "e")


def told(stock):
    return [(name, stock.cost_of(name), stock.room_of(name)) for name in stock.names()]


def pieces_of(many):
    return [f"t{number} {number} {1 + number}" for number in range(many)]


class TestNumber(unittest.TestCase):
    def test_numbers(self):
        for number in (*range(120), 10 ** 30 - 1, 10 ** 30, 10 ** 31 - 1):
            self.assertEqual(read_number(str(number)), number)

    def test_the_answer_is_a_whole_number(self):
        self.assertIs(type(read_number("0")), int)
        self.assertIs(type(read_number("1")), int)

    def test_lengths(self):
        for many in range(1, 32):
            self.assertEqual(read_number("9" * many), 10 ** many - 1)
        for many in (0, 32, 33, 400, 5000, 20000):
            assert_refused(self, "NoNumber", read_number, "9" * many)

    def test_a_nought_ahead(self):
        for text in ("00", "01", "007", "0" * 31, "0" + "9" * 30):
            assert_refused(self, "NoNumber", read_number, text)

    def test_signs_and_blanks(self):
        for text in ("-1", "+1", "-0", "- 1", "1-", " 1", "1 ", "1 2", " ", "-", "+", "1_0", "0x1", "1.0", "1e3", "a"):
            assert_refused(self, "NoNumber", read_number, text)

    def test_strange_signs_anywhere(self):
        for sign in STRANGE_SIGNS:
            for text in (sign, sign + "12", "1" + sign + "2", "12" + sign):
                assert_refused(self, "NoNumber", read_number, text)


class TestAsks(unittest.TestCase):
    def test_rows(self):
        self.assertEqual(read_asks("a"), ["a"])
        self.assertEqual(read_asks("a b a c9 abcdefgh"), ["a", "b", "a", "c9", "abcdefgh"])

    def test_no_asks(self):
        self.assertEqual(read_asks(""), [])
        self.assertEqual(show_asks([]), "")

    def test_two_hundred_and_one_more(self):
        self.assertEqual(read_asks(" ".join(["a"] * 199)), ["a"] * 199)
        self.assertEqual(read_asks(" ".join(["a"] * 200)), ["a"] * 200)
        assert_refused(self, "TooMany", read_asks, " ".join(["a"] * 201))

    def test_too_many_goes_ahead_of_no_name(self):
        assert_refused(self, "TooMany", read_asks, " " * 200)
        assert_refused(self, "TooMany", read_asks, "A " * 200 + "a")
        assert_refused(self, "NoName", read_asks, " " * 199)
        assert_refused(self, "NoName", read_asks, "A " * 199 + "a")

    def test_blanks(self):
        for text in (" ", "  ", " a", "a ", "a  b", " a b", "a b ", "a\tb", "a\nb", "a\u00a0b", "a\n"):
            assert_refused(self, "NoName", read_asks, text)

    def test_no_names(self):
        for text in ("A", "a B", "1a", "a 1", "abcdefghi", "a,b", "a; b", "\u00e4", "a \u0663 b", "a a A"):
            assert_refused(self, "NoName", read_asks, text)

    def test_shown_as_read(self):
        for text in ("", "a", "a b a", "abcdefgh z0", " ".join(["a", "b1"] * 100)):
            self.assertEqual(show_asks(read_asks(text)), text)
        for asks in ([], ["a"], ["b", "a", "b"], ["x"] * 200):
            self.assertEqual(read_asks(show_asks(asks)), asks)

    def test_showing_changes_nothing(self):
        asks = ["b", "a", "b"]
        self.assertEqual(show_asks(asks), "b a b")
        self.assertEqual(show_asks(asks), "b a b")
        self.assertEqual(asks, ["b", "a", "b"])

    def test_each_answer_is_the_askers_own(self):
        for text in ("", "a b"):
            first = read_asks(text)
            first.append("z")
            self.assertEqual(read_asks(text), text.split())


class TestStockText(unittest.TestCase):
    def test_the_told_example(self):
        stock = read_stock("a 3 1; b 10 2")
        self.assertIsInstance(stock, Stock)
        self.assertEqual(told(stock), [("a", 3, 1), ("b", 10, 2)])
        self.assertEqual(show_stock(stock), "a 3 1; b 10 2")

    def test_no_things(self):
        self.assertIsInstance(read_stock(""), Stock)
        self.assertEqual(read_stock("").names(), [])
        self.assertEqual(show_stock(Stock([])), "")

    def test_bounds(self):
        text = f"abcdefgh {10 ** 30} 1000; a 0 1"
        self.assertEqual(told(read_stock(text)), [("abcdefgh", 10 ** 30, 1000), ("a", 0, 1)])
        self.assertEqual(show_stock(read_stock(text)), text)

    def test_the_order_is_kept(self):
        text = "z 1 1; a 2 2; m 3 3"
        self.assertEqual(read_stock(text).names(), ["z", "a", "m"])
        self.assertEqual(show_stock(read_stock(text)), text)

    def test_sixty_and_one_more(self):
        text = "; ".join(pieces_of(60))
        self.assertEqual(len(read_stock(text).names()), 60)
        self.assertEqual(show_stock(read_stock(text)), text)
        assert_refused(self, "TooMany", read_stock, "; ".join(pieces_of(61)))

    def test_other_numbers_of_words(self):
        for text in ("a", "a 3", "a 3 1 1", "a  3 1", "a 3  1", " a 3 1", "a 3 1 ", " ", "; ", ";", "a 3 1; b 10"):
            assert_refused(self, "NoLine", read_stock, text)

    def test_semicolons(self):
        assert_refused(self, "NoLine", read_stock, "a 3 1;b 10 2")
        assert_refused(self, "NoNumber", read_stock, "a 3 1;")
        assert_refused(self, "NoNumber", read_stock, "a 3 1;; b 10 2")
        assert_refused(self, "NoLine", read_stock, "a 3 1 ; b 10 2")
        assert_refused(self, "NoName", read_stock, ";a 3 1; b 10 2")

    def test_empty_pieces(self):
        for text in ("; a 3 1", "a 3 1; ", "a 3 1; ; b 10 2", "a 3 1;  b 10 2", "; ; "):
            assert_refused(self, "NoLine", read_stock, text)

    def test_no_numbers(self):
        for word in ("x", "-1", "+1", "01", "", "1.0", "\u0663", "9" * 32, "1\t"):
            assert_refused(self, "NoNumber", read_stock, f"a {word} 1")
            assert_refused(self, "NoNumber", read_stock, f"a 1 {word}")

    def test_what_the_stock_refuses(self):
        assert_refused(self, "NoName", read_stock, "A 1 1")
        assert_refused(self, "NoName", read_stock, " 1 1")
        assert_refused(self, "NoName", read_stock, "\na 1 1")
        assert_refused(self, "Twice", read_stock, "a 1 1; a 1 1")
        assert_refused(self, "NoNumber", read_stock, f"a {10 ** 30 + 1} 1")
        assert_refused(self, "NoNumber", read_stock, "a 1 0")
        assert_refused(self, "NoNumber", read_stock, "a 1 1001")

    def test_pieces_go_from_the_first_on(self):
        assert_refused(self, "NoNumber", read_stock, "a x 1; b 1")
        assert_refused(self, "NoLine", read_stock, "a 1; b x 1")
        assert_refused(self, "NoLine", read_stock, "a x; b 1 1")

    def test_reading_goes_ahead_of_the_stock(self):
        assert_refused(self, "NoLine", read_stock, "A 1 1; b 1")
        assert_refused(self, "NoNumber", read_stock, "A x 1")
        assert_refused(self, "NoNumber", read_stock, "A 1 1; b 1 x")
        assert_refused(self, "NoNumber", read_stock, "a 1 1; a 1 1; b 01 1")
        assert_refused(self, "NoLine", read_stock, "a 1 0; b")
        assert_refused(self, "NoName", read_stock, "A 1 0; b 1 1")

    def test_more_than_sixty_pieces(self):
        many = pieces_of(61)
        assert_refused(self, "TooMany", read_stock, "; ".join(["A 1 0"] * 61))
        assert_refused(self, "NoLine", read_stock, "; ".join([*many, "b"]))
        assert_refused(self, "NoNumber", read_stock, "; ".join([*many, "b 1 x"]))
        assert_refused(self, "NoLine", read_stock, "; " * 61)

    def test_the_same_again(self):
        text = "a 3 1; b 10 2"
        self.assertEqual(told(read_stock(text)), told(read_stock(text)))
        stock = read_stock(text)
        self.assertEqual(show_stock(stock), show_stock(stock))
        self.assertEqual(told(stock), [("a", 3, 1), ("b", 10, 2)])


if __name__ == "__main__":
    unittest.main()
