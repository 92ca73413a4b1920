import copy
import unittest

from castoff import errors
from tests.helper import NAMED_WORDS, PLACED_WORDS, PLAIN_WORDS, WORDS, assert_is_refusal, class_called


def made(title):
    if title in NAMED_WORDS:
        return class_called(title)("a1", 7)
    if title in PLACED_WORDS:
        return class_called(title)(7)
    return class_called(title)("some words")


class TestClasses(unittest.TestCase):
    def test_there_are_fourteen_and_cast_error(self):
        kinds = [kind for kind in vars(errors).values() if isinstance(kind, type)]
        self.assertEqual(sorted(kind.__name__ for kind in kinds), sorted(WORDS))
        self.assertEqual(len(WORDS), 15)

    def test_each_stands_straight_under_cast_error(self):
        self.assertEqual(errors.CastError.__bases__, (ValueError,))
        for title in WORDS:
            if title != "CastError":
                self.assertEqual(class_called(title).__bases__, (errors.CastError,), title)

    def test_each_is_taken_by_its_own_and_by_no_other(self):
        for title in WORDS:
            with self.subTest(title):
                assert_is_refusal(self, made(title), title)
                for taker in (class_called(title), errors.CastError, ValueError):
                    with self.assertRaises(taker):
                        raise made(title)

    def test_cast_error_is_none_of_those_under_it(self):
        for title in WORDS:
            if title != "CastError":
                self.assertNotIsInstance(made("CastError"), class_called(title))

    def test_word_tells_the_same_again(self):
        for title, word in WORDS.items():
            refusal = made(title)
            self.assertEqual(refusal.word(), word)
            self.assertEqual(refusal.word(), word)

    def test_the_text_changes_no_word(self):
        for title, word in PLAIN_WORDS.items():
            for text in ("", "twice", "\u0416\n"):
                self.assertEqual(class_called(title)(text).word(), word)


class TestFields(unittest.TestCase):
    def test_unknown_and_too_wide_have_name_and_place(self):
        for title in NAMED_WORDS:
            for name, place in (("a", 0), ("", -1), ("No Name", 199)):
                refusal = class_called(title)(name, place)
                self.assertEqual((refusal.name, refusal.place), (name, place))

    def test_bad_book_has_a_place(self):
        for place in (0, 1, 200):
            self.assertEqual(errors.BadBook(place).place, place)

    def test_a_copy_has_the_same_fields(self):
        for title in (*NAMED_WORDS, *PLACED_WORDS):
            refusal = made(title)
            self.assertEqual(vars(copy.copy(refusal)), vars(refusal))

    def test_two_refusals_keep_their_own_fields(self):
        one = errors.Unknown("a", 1)
        other = errors.Unknown("b", 2)
        self.assertEqual((one.name, one.place, other.name, other.place), ("a", 1, "b", 2))


if __name__ == "__main__":
    unittest.main()
