"""The desk: each line with its answer, and with all that it refuses; texts of lines."""

import unittest

from castoff.desk import Desk, answers_to
from tests.helper import WORDS, assert_refused

GREAT = str(10 ** 30)
# Words in the place of a number that are none: empty, with a nought ahead, with a sign, of thirty-two figures.
NO_NUMBERS = (
    "", "00", "01", "007", "+1", "-1", "-0", "1.0", "1,0", "1_0", "x", "1a", "a1", "1\t", "\t1", "1\n", "\u0661",
    "0x1", "1e3", "1" * 32, "9" * 32, "0" * 31,
)
NO_NAMES = ("", "A", "aB", "1", "1a", "a-", "a_b", "abcdefghi", "a\t", "a\n", "\u00e4", "a.", "..", "/", "a,b")
NO_RULES = ("", "old", "Oldest", "OLDEST", "oldests", "oldest\t", "rule", "ranked", "planned", "a", "1", "rows,")
# Each line as it stands when all its words are right.
FIXED = (
    "thing n 1 1", "again", "run oldest 3", "book first 3", "holds halving 2 3", "even farthest 2 3", "best 3",
    "ways 3", "sizes", "parts 3", "read a", "keep a 1", "ahead a", "rest", "store a", "levels", "found", "spent",
)
OPEN = ("ask a", "ask a b", "tower 2", "tower 1 1", "prompt 2", "prompt 1 1")
TO_A_TOWER = ("read a", "keep a 1", "ahead a", "rest", "store a", "levels", "found", "spent")
STORY = ("thing a 1 1", "thing b 10 1", "thing c 100 1", "ask a b c a", "tower 1 1", "keep b 5", "read a")


def desk_behind(*lines):
    desk = Desk()
    for line in lines:
        desk.say(line)
    return desk


def desk_of(things, asks=""):
    """A desk told things as a 3 1; b 10 2 and then asks, if there are any."""
    desk = desk_behind(*["thing " + thing for thing in things.split("; ") if thing])
    if asks:
        desk.say("ask " + asks)
    return desk


def all_of(thing):
    """Whatever an object keeps, and what that keeps, to be held against what it keeps later."""
    if isinstance(thing, (list, tuple)):
        return [all_of(part) for part in thing]
    if isinstance(thing, dict):
        return [(key, all_of(part)) for key, part in thing.items()]
    if hasattr(thing, "__dict__"):
        return all_of(vars(thing))
    return thing


class DeskTests(unittest.TestCase):
    def answers(self, desk, *pairs):
        for line, answer in pairs:
            self.assertEqual(desk.say(line), answer, line)

    def refuses(self, desk, title, line):
        before = all_of(desk)
        refusal = assert_refused(self, title, desk.say, line)
        self.assertEqual(all_of(desk), before, line)
        return refusal

    def refuses_at(self, desk, title, line, name, place):
        refusal = self.refuses(desk, title, line)
        self.assertEqual((refusal.name, refusal.place), (name, place), line)


class TestForms(DeskTests):
    def test_each_line_is_one(self):
        for line in FIXED + OPEN:
            self.assertIs(type(desk_behind(*STORY).say(line)), str, line)

    def test_another_number_of_words(self):
        for line in FIXED:
            desk = desk_behind(*STORY)
            self.refuses(desk, "NoLine", line + " 1")
            self.refuses(desk, "NoLine", line + " a")
            self.refuses(desk, "NoLine", line + " 1 1")
            if " " in line:
                self.refuses(desk, "NoLine", line.rpartition(" ")[0])
                self.refuses(desk, "NoLine", line.partition(" ")[0])

    def test_blanks(self):
        for line in FIXED:
            desk = desk_behind(*STORY)
            self.refuses(desk, "NoLine", " " + line)
            self.refuses(desk, "NoLine", line + " ")
            self.refuses(desk, "NoLine", line + "  ")
            for at, sign in enumerate(line):
                if sign == " ":
                    self.refuses(desk, "NoLine", line[:at] + " " + line[at:])

    def test_lines_that_may_have_more_words(self):
        for line in OPEN:
            desk = desk_behind(*STORY)
            # A word without signs is no name and no number, but it is a word.
            title = "NoName" if line.startswith("ask") else "NoNumber"
            self.refuses(desk, "NoLine", line.partition(" ")[0])
            self.refuses(desk, "NoLine", " " + line)
            self.refuses(desk, title, line.partition(" ")[0] + " ")
            self.refuses(desk, title, line + " ")
            self.refuses(desk, title, line.replace(" ", "  ", 1))
            self.refuses(desk, title, line + "  " + line.rpartition(" ")[2])

    def test_a_first_word_that_is_none(self):
        desk = desk_behind(*STORY)
        for first in (
            "", " ", "  ", "Thing", "ASK", "things", "asks", "thin", "run\t", "\tagain", "again\n", "a", "oldest",
            "none", "NAME", "..", "diary", "stored", "say", "+", "1", "thing,a,1,1",
        ):
            for rest in ("", " a", " A", " 1", " oldest 1", " a 1 1", " 01"):
                self.refuses(desk, "NoLine", first + rest)

    def test_the_number_of_words_is_looked_at_ahead_of_the_words(self):
        for line in ("run oldest", "run Oldest", "run Oldest 01 01", "thing A 1 1 1", "keep A", "best x x"):
            self.refuses(desk_behind(*STORY), "NoLine", line)
            self.refuses(Desk(), "NoLine", line)

    def test_a_name_that_is_none(self):
        for name in NO_NAMES:
            for desk in (Desk(), desk_behind(*STORY)):
                for line in (f"thing {name} 1 1", f"ask {name}", f"read {name}", f"keep {name} 1", f"ahead {name}",
                             f"store {name}", f"ask a {name}", f"ask a {name} b"):
                    self.refuses(desk, "NoName", line)

    def test_a_rule_that_is_none(self):
        for rule in NO_RULES:
            for desk in (Desk(), desk_behind(*STORY)):
                for line in (f"run {rule} 2", f"book {rule} 2", f"holds {rule} 2 3", f"even {rule} 2 3"):
                    self.refuses(desk, "NoRule", line)

    def test_a_number_that_is_none(self):
        for number in NO_NUMBERS:
            for desk in (Desk(), desk_behind(*STORY)):
                for line in (
                    f"thing a {number} 1", f"thing a 1 {number}", f"run dues {number}", f"book hand {number}",
                    f"holds rows {number} 2", f"holds rows 2 {number}", f"even first {number} 2",
                    f"even first 2 {number}", f"best {number}", f"ways {number}", f"parts {number}",
                    f"tower {number}", f"tower 1 {number}", f"prompt {number} 1", f"prompt 1 {number}",
                    f"keep a {number}", f"keep z {number}",
                ):
                    self.refuses(desk, "NoNumber", line)

    def test_the_first_from_the_left_counts(self):
        for desk in (Desk(), desk_behind(*STORY)):
            for line, title in (
                ("thing A 01 01", "NoName"), ("thing a 01 01", "NoNumber"), ("keep A 01", "NoName"),
                ("run Oldest 01", "NoRule"), ("book x x", "NoRule"), ("holds x 01 01", "NoRule"),
                ("holds oldest x 2", "NoNumber"), ("even x x x", "NoRule"), ("even oldest 2 x", "NoNumber"),
                ("ask A 1 z", "NoName"), ("ask z A", "NoName"), ("ask " + "z " * 201 + "A", "NoName"),
                ("tower 0 01", "NoNumber"), ("tower 1 1 1 1 1 1 1 x", "NoNumber"),
            ):
                self.refuses(desk, title, line)

    def test_the_words_are_looked_at_ahead_of_what_the_point_refuses(self):
        desk = desk_of("a 1 1; w 1 5", "a w")
        # Of each of these lines another word, and behind it another refusal, would be refused as well.
        self.refuses(desk, "NoNumber", "thing a 01 1")
        self.refuses(desk, "NoRule", "run x 3")
        self.refuses(desk, "NoNumber", "even oldest 3 01")
        self.refuses(desk, "NoName", "ask z A")
        self.refuses(desk, "NoName", "read A")
        self.refuses(desk, "NoNumber", "keep a 01")

    def test_numbers_of_thirty_one_figures(self):
        desk = desk_of("a 1 1")
        # Such a number is read, so that the stock is asked, and a stock tells of the name ahead of the cost.
        self.refuses(desk, "Twice", "thing a " + "9" * 31 + " 1")
        self.refuses(desk, "NoNumber", "thing a " + "9" * 32 + " 1")
        self.refuses(desk, "NoNumber", "thing b " + "9" * 31 + " 1")
        self.refuses(desk, "NotThere", "keep a " + "9" * 31)
        self.refuses(desk, "NoNumber", "keep a " + "9" * 32)
        self.answers(desk, (f"thing b {GREAT} 1", "ok"), ("ask b", "row 1"), ("best 1", f"paid {GREAT}"))


class TestThings(DeskTests):
    def test_things_are_told(self):
        desk = Desk()
        self.answers(
            desk, ("thing a 3 1", "ok"), ("thing b 10 2", "ok"), ("ask b a b", "row 3"),
            ("run oldest 3", "missed 2 paid 13 left b a"), ("run oldest 2", "missed 3 paid 23 left b"),
        )

    def test_an_earlier_name(self):
        desk = desk_of("a 3 1; b 10 2")
        for name in "ab":
            self.refuses(desk, "Twice", f"thing {name} 3 1")
            self.refuses(desk, "Twice", f"thing {name} 1{GREAT[1:-1]}1 0")
        self.answers(desk, ("thing c 1 1", "ok"))

    def test_bounds(self):
        desk = Desk()
        self.refuses(desk, "NoNumber", "thing a 1" + "0" * 29 + "1 1")
        self.refuses(desk, "NoNumber", "thing a 1 0")
        self.refuses(desk, "NoNumber", "thing a 1 1001")
        self.refuses(desk, "NoNumber", "thing a 1 " + "9" * 31)
        self.answers(
            desk, (f"thing a {GREAT} 1000", "ok"), ("thing b 0 1", "ok"), ("thing abcdefgh 1 1", "ok"),
            ("ask a b a abcdefgh", "row 4"), ("run first 1000", f"missed 4 paid 2{GREAT[1:-1]}1 left abcdefgh"),
        )

    def test_sixty_things(self):
        desk = Desk()
        for number in range(60):
            self.answers(desk, (f"thing t{number} {number} 1", "ok"))
        for line in ("thing a 1 1", "thing t0 1 1", "thing a 1 0", f"thing t0 {GREAT[:-1]}1 0"):
            self.refuses(desk, "TooMany", line)
        self.refuses(desk, "NoName", "thing A 1 1")
        self.refuses(desk, "NoNumber", "thing a 01 1")
        self.answers(desk, ("ask t0 t59", "row 2"), ("best 1", "paid 59"))

    def test_a_thing_told_later_is_known_then(self):
        desk = desk_of("a 1 1", "a")
        self.refuses_at(desk, "Unknown", "ask a b", "b", 2)
        self.answers(desk, ("thing b 1 1", "ok"), ("ask a b", "row 3"))


class TestAsks(DeskTests):
    def test_rows_grow(self):
        desk = desk_of("a 1 1; b 1 1")
        self.answers(
            desk, ("ask a", "row 1"), ("ask b a b", "row 4"), ("book oldest 2", "a- b- a+ b+"), ("ask b", "row 5"),
            ("again", "ok"), ("book oldest 2", "none"), ("again", "ok"), ("ask b", "row 1"), ("book oldest 2", "b-"),
        )

    def test_an_unknown_name(self):
        desk = desk_of("a 1 1; b 1 1")
        self.refuses_at(desk, "Unknown", "ask c", "c", 0)
        self.refuses_at(desk, "Unknown", "ask a c d", "c", 1)
        self.answers(desk, ("ask a b a", "row 3"))
        self.refuses_at(desk, "Unknown", "ask d", "d", 3)
        self.refuses_at(desk, "Unknown", "ask a b d c", "d", 5)
        self.answers(desk, ("again", "ok"))
        self.refuses_at(desk, "Unknown", "ask d", "d", 0)
        self.refuses_at(Desk(), "Unknown", "ask a", "a", 0)

    def test_two_hundred_asks(self):
        desk = desk_of("a 1 1; b 1 1")
        self.refuses(desk, "TooMany", "ask" + " a" * 201)
        self.refuses(desk, "TooMany", "ask" + " z" * 201)
        self.answers(desk, ("ask" + " a" * 199, "row 199"))
        self.refuses(desk, "TooMany", "ask a a")
        self.refuses(desk, "TooMany", "ask z a")
        self.refuses_at(desk, "Unknown", "ask z", "z", 199)
        self.answers(desk, ("ask b", "row 200"))
        self.refuses(desk, "TooMany", "ask a")
        self.refuses(desk, "TooMany", "ask z")
        self.answers(desk, ("run oldest 1", "missed 2 paid 2 left b"), ("again", "ok"), ("ask" + " b" * 200, "row 200"))


class TestRuns(DeskTests):
    def test_the_examples(self):
        desk = desk_of("x 4 1; a 1 1; b 2 1", "x a b")
        self.answers(desk, ("run oldest 2", "missed 3 paid 7 left a b"))
        desk = desk_of("a 1 1; b 1 1; c 1 1", "a b a c")
        self.answers(desk, ("book oldest 2", "a- b- a+ c-b"))

    def test_no_asks(self):
        for desk in (Desk(), desk_of("a 1 1")):
            for rule in ("oldest", "first", "halving", "farthest", "hand", "rows", "dues"):
                self.answers(desk, (f"run {rule} 1", "missed 0 paid 0 left"), (f"book {rule} 1000000", "none"))

    def test_several_things_go_at_one_ask(self):
        desk = desk_of("a 1 1; b 10 1; c 100 1; w 1000 3", "b a c w a w b")
        self.answers(
            desk, ("book oldest 3", "b- a- c- w-b,a,c a-w w-a b-w"), ("run oldest 3", "missed 7 paid 2122 left b"),
            ("book oldest 4", "b- a- c- w-b,a a-c w+ b-a"), ("run oldest 4", "missed 6 paid 1122 left w b"),
            ("book oldest 5", "b- a- c- w-b a+ w+ b-c"), ("run oldest 5", "missed 5 paid 1121 left a w b"),
            ("run oldest 6", "missed 4 paid 1111 left b a c w"),
        )

    def test_each_rule(self):
        desk = desk_of("a 1 1; b 10 1; c 100 1; d 7 1", "a a b c a d b")
        self.answers(
            desk, ("book oldest 2", "a- a+ b- c-a a-b d-c b-a"), ("book first 2", "a- a+ b- c-a a-b d-c b-a"),
            # A is counted twice, so b goes for c, and then c for d and d for b.
            ("book halving 2", "a- a+ b- c-b a+ d-c b-d"),
            # C is never asked again; of a and c, both never asked again, c was longer not asked.
            ("book farthest 2", "a- a+ b- c-b a+ d-c b-a"),
            # B comes back, so the bound is 1, and d alone in its row is no more than that.
            ("book hand 2", "a- a+ b- c-a a-b d-c b-a"), ("book rows 2", "a- a+ b- c-b a+ d-c b-a"),
            # The level is 10 when a comes again, and its due 11, the due of c is 101, that of d 18.
            ("book dues 2", "a- a+ b- c-a a-b d-a b-d"),
        )

    def test_refused_as_the_asks_are(self):
        desk = desk_of("a 1 1; b 1 3", "a b a")
        for word in ("run", "book"):
            for rule in ("oldest", "first", "halving", "farthest", "hand", "rows", "dues"):
                self.refuses(desk, "NoNumber", f"{word} {rule} 0")
                self.refuses(desk, "NoNumber", f"{word} {rule} 1000001")
                self.refuses(desk, "NoNumber", f"{word} {rule} " + "9" * 31)
                self.refuses_at(desk, "TooWide", f"{word} {rule} 2", "b", 1)
                self.refuses(Desk(), "NoNumber", f"{word} {rule} 0")
        self.answers(desk, ("run hand 1000000", "missed 2 paid 2 left a b"))

    def test_runs_change_nothing(self):
        desk = desk_behind(*STORY)
        before = all_of(desk)
        for line in FIXED[2:10] * 2 + ("store a", "levels", "found", "spent"):
            desk.say(line)
        self.assertEqual(all_of(desk), before)


class TestHolds(DeskTests):
    def test_the_example(self):
        # With four places p went, and a, b and x are there; with six p stays, and a and b go for x.
        desk = desk_of("p 99 4; a 1 1; b 1 1; x 1 2", "p a b x")
        self.answers(desk, ("holds dues 4 6", "no 3 a b"), ("holds dues 4 7", "no 3 a"), ("holds dues 4 8", "yes"))
        self.answers(desk, ("holds oldest 4 6", "yes"), ("ask p", "row 5"), ("holds farthest 4 6", "no 3 a b"))

    def test_yes_and_no(self):
        desk = desk_of("a 1 1; b 1 1; c 1 1; d 1 1; e 1 1", "a b c d a b e a b c d e")
        self.answers(
            desk, ("holds first 3 4", "no 6 a"), ("holds hand 3 4", "no 6 a"), ("holds oldest 3 4", "yes"),
            ("holds halving 3 4", "yes"), ("holds farthest 3 4", "yes"), ("holds first 3 3", "yes"),
            ("holds first 5 1000000", "yes"),
        )
        self.answers(Desk(), ("holds rows 1 1", "yes"), ("holds rows 1 1000000", "yes"))

    def test_refusals(self):
        desk = desk_of("a 1 1; b 1 3", "a b")
        self.refuses(desk, "NoNumber", "holds oldest 0 3")
        self.refuses(desk, "NoNumber", "holds oldest 1000001 1000001")
        for greater in ("0", "1", "3", "1000001"):
            self.refuses_at(desk, "TooWide", f"holds oldest 2 {greater}", "b", 1)
        self.refuses(desk, "NoNumber", "holds oldest 4 3")
        self.refuses(desk, "NoNumber", "holds oldest 3 1000001")
        self.refuses(desk, "NoNumber", "holds oldest 3 0")
        self.refuses(Desk(), "NoNumber", "holds dues 2 1")


class TestEven(DeskTests):
    def test_the_example(self):
        desk = desk_of("a 1 1; b 1 1", "a b a b a b a")
        self.answers(
            desk, ("even oldest 1 2", "7/2"), ("even oldest 1 1", "1"), ("even oldest 2 1", "2/7"),
            ("even dues 2 1000000", "1"),
        )

    def test_a_whole_ratio(self):
        desk = desk_of("a 1 1; b 1 1", "a b a b")
        self.answers(desk, ("even oldest 1 2", "2"), ("even farthest 1 2", "2"), ("even first 2 1", "1/2"))
        desk = desk_of("a 6 1; b 4 1; c 2 1", "a b c a b c")
        # The rule pays for all, the best run spares a and c once each: 24 over 16.
        self.answers(desk, ("even oldest 2 2", "3/2"))

    def test_a_best_run_that_pays_nothing(self):
        self.answers(Desk(), ("even oldest 1 1", "none"), ("even dues 7 1000000", "none"))
        self.answers(desk_of("a 0 1; b 0 1", "a b a"), ("even first 1 1", "none"))
        self.answers(desk_of("a 0 1; b 1 1", "a b a"), ("even first 1 1", "1"))

    def test_refusals(self):
        desk = desk_of("a 1 1; w 1 3", "a w")
        self.refuses(desk, "NoNumber", "even oldest 0 0")
        self.refuses(desk, "NoNumber", "even oldest 1000001 2")
        self.refuses_at(desk, "TooWide", "even oldest 2 0", "w", 1)
        self.refuses(desk, "NoNumber", "even oldest 3 0")
        self.refuses(desk, "NoNumber", "even oldest 3 1000001")
        self.refuses_at(desk, "TooWide", "even oldest 3 2", "w", 1)
        self.refuses(desk, "Unlike", "even oldest 3 3")
        self.answers(desk, ("again", "ok"), ("even oldest 1 1", "none"), ("ask" + " a" * 40, "row 40"))
        self.answers(desk, ("even oldest 1 1", "1"), ("ask a", "row 41"))
        self.refuses(desk, "TooMany", "even oldest 1 1")
        self.refuses(desk, "NoNumber", "even oldest 1 0")
        self.answers(desk, ("ask w", "row 42"))
        self.refuses(desk, "Unlike", "even oldest 3 3")


class TestBestAndWays(DeskTests):
    def test_best(self):
        desk = desk_of("a 3 1; b 10 1; c 5 1", "a b c a b c")
        self.answers(desk, ("best 2", "paid 26"), ("best 1", "paid 36"), ("best 3", "paid 18"))
        self.answers(desk, ("ways 2", "paid 26"), ("ways 1", "paid 36"), ("best 1000000", "paid 18"))

    def test_ways_of_unlike_rooms(self):
        desk = desk_of("a 3 1; b 10 2", "a b a")
        self.answers(desk, ("ways 3", "paid 13"), ("ways 2", "paid 16"))
        self.refuses(desk, "Unlike", "best 3")

    def test_no_asks(self):
        for desk in (Desk(), desk_of("a 1 1; w 1 9")):
            self.answers(desk, ("best 1", "paid 0"), ("ways 1", "paid 0"), ("best 1000000", "paid 0"))

    def test_refusals(self):
        desk = desk_of("a 1 1; w 1 3; b 1 1; c 1 1; d 1 1; e 1 1; f 1 1; g 1 1", "a w")
        for word in ("best", "ways"):
            self.refuses(desk, "NoNumber", f"{word} 0")
            self.refuses(desk, "NoNumber", f"{word} 1000001")
            self.refuses_at(desk, "TooWide", f"{word} 2", "w", 1)
        self.refuses(desk, "Unlike", "best 3")
        self.answers(desk, ("ask" + " a" * 39, "row 41"))
        self.refuses(desk, "Unlike", "best 3")
        self.refuses(desk, "TooMany", "ways 3")
        self.answers(desk, ("again", "ok"), ("ask" + " a" * 30, "row 30"), ("ways 1", "paid 1"), ("ask a", "row 31"))
        self.refuses(desk, "TooMany", "ways 1")
        self.answers(desk, ("ask" + " a" * 9, "row 40"), ("best 1", "paid 1"), ("ask a", "row 41"))
        self.refuses(desk, "TooMany", "best 1")
        self.answers(desk, ("again", "ok"), ("ask a b c d e f", "row 6"), ("ways 1", "paid 6"), ("ask g", "row 7"))
        self.refuses(desk, "TooMany", "ways 1")
        self.answers(desk, ("best 1", "paid 7"))


class TestSizesAndParts(DeskTests):
    def test_sizes(self):
        desk = desk_of("a 3 1; b 10 2; c 5 4", "a b b c a")
        self.answers(desk, ("sizes", "4:4:21 7:3:18"), ("again", "ok"), ("ask b", "row 1"), ("sizes", "2:1:10"))
        self.answers(desk, ("again", "ok"), ("sizes", "none"))
        self.answers(Desk(), ("sizes", "none"))

    def test_parts(self):
        desk = desk_of("a 1 1; b 1 1; c 1 9", "a b a c a b b")
        self.answers(
            desk, ("parts 2", "3"), ("parts 1", "6"), ("parts 3", "1"), ("parts 1000000", "1"), ("again", "ok"),
            ("parts 2", "0"),
        )
        self.answers(Desk(), ("parts 1", "0"))

    def test_parts_that_are_none(self):
        for desk in (Desk(), desk_of("a 1 1", "a")):
            self.refuses(desk, "NoNumber", "parts 0")
            self.refuses(desk, "NoNumber", "parts 1000001")


class TestTowers(DeskTests):
    def test_a_story(self):
        desk = desk_of("a 1 1; b 10 1; c 100 1; d 1000 1")
        self.answers(
            desk, ("tower 1 2", "ok"), ("levels", "/ /"), ("found", "0 0 0"), ("spent", "0"), ("read a", "0"),
            ("keep b 5", "ok"), ("store b", "0"), ("read b", "5"), ("ahead b", "no"), ("ahead c", "yes"),
            ("levels", "c / b a /"), ("read d", "0"), ("keep a 7", "ok"), ("levels", "a / d c /"), ("store b", "5"),
            ("found", "1 0 4"), ("spent", "1101"), ("rest", "1"), ("rest", "0"), ("store a", "7"), ("spent", "1101"),
        )

    def test_a_prompt_tower(self):
        desk = desk_of("a 1 1; b 10 1")
        self.answers(
            desk, ("prompt 1", "ok"), ("keep a 5", "ok"), ("store a", "5"), ("rest", "0"), ("levels", "a /"),
            ("read b", "0"), ("levels", "b /"), ("ahead a", "yes"), ("read a", "5"), ("found", "1 2"), ("spent", "11"),
        )

    def test_levels(self):
        desk = desk_of("a 1 1; b 1 1; c 1 1")
        self.answers(
            desk, ("tower 1", "ok"), ("levels", "/"), ("read a", "0"), ("levels", "a /"),
            ("tower 2 1 3 1 1 1", "ok"), ("levels", "/ / / / / /"), ("read a", "0"), ("read b", "0"), ("read c", "0"),
            ("levels", "c b / a / / / / /"), ("found", "0 0 0 0 0 0 3"),
        )
        self.answers(Desk(), ("tower 3", "ok"))

    def test_ahead_of_any_tower(self):
        for desk in (Desk(), desk_of("a 1 1", "a")):
            for line in TO_A_TOWER + ("read z", f"keep a {GREAT[:-1]}1", "keep z 1", "ahead z", "store z"):
                self.refuses(desk, "NotThere", line)
            self.refuses(desk, "NoName", "read A")
            self.refuses(desk, "NoNumber", "keep a 01")
            self.refuses(desk, "NoLine", "rest 1")
            self.refuses(desk, "NoNumber", "tower 0")
            self.refuses(desk, "NoNumber", "prompt 1 1 1 1 1 1 1")
            self.refuses(desk, "NotThere", "levels")

    def test_what_the_tower_refuses(self):
        for word in ("tower", "prompt"):
            desk = desk_of("a 1 1; b 1 1")
            self.answers(desk, (f"{word} 1", "ok"), ("keep a 4", "ok"))
            for line in ("read z", "keep z 1", f"keep z {GREAT[:-1]}1", "ahead z", "store z"):
                self.refuses_at(desk, "Unknown", line, "z", -1)
            self.refuses(desk, "NoNumber", f"keep a {GREAT[:-1]}1")
            self.refuses(desk, "NoNumber", f"keep b {GREAT[:-1]}1")
            self.answers(desk, (f"keep b {GREAT}", "ok"), ("read b", GREAT), ("keep b 0", "ok"), ("read b", "0"))

    def test_sizes_that_are_none(self):
        for word in ("tower", "prompt"):
            for desk in (Desk(), desk_of("a 1 1; w 1 2"), desk_behind(*STORY)):
                for sizes in ("0", "1 0", "1000001", "1 1 1 1 1 1 1", "1 1 1 1 1 1000001", "9" * 31):
                    self.refuses(desk, "NoNumber", f"{word} {sizes}")
            desk = desk_of("a 1 1; w 1 2")
            self.refuses(desk, "Unlike", f"{word} 1")
            self.refuses(desk, "NotThere", "rest")
            desk = desk_of("a 1 1")
            self.answers(desk, (f"{word} 1000000 1 1 1 1 1", "ok"), ("read a", "0"), ("thing w 1 2", "ok"))
            self.refuses(desk, "Unlike", f"{word} 1")
            self.answers(desk, ("levels", "a / / / / / /"))

    def test_a_second_tower(self):
        desk = desk_of("a 1 1; b 10 1")
        self.answers(
            desk, ("tower 2", "ok"), ("keep a 5", "ok"), ("rest", "1"), ("keep b 6", "ok"), ("read a", "5"),
            ("prompt 1 1", "ok"), ("store a", "0"), ("store b", "0"), ("found", "0 0 0"), ("spent", "0"), ("rest", "0"),
            ("levels", "/ /"), ("keep a 8", "ok"), ("store a", "8"),
            ("tower 1", "ok"), ("levels", "/"), ("read a", "0"), ("spent", "1"), ("keep a 9", "ok"), ("store a", "0"),
        )

    def test_things_told_later_are_not_in_it(self):
        desk = desk_of("a 1 1")
        self.answers(desk, ("tower 1", "ok"), ("thing b 10 1", "ok"), ("read a", "0"))
        for line in ("read b", "keep b 1", "ahead b", "store b"):
            self.refuses_at(desk, "Unknown", line, "b", -1)
        self.answers(desk, ("ask b", "row 1"), ("tower 1", "ok"), ("read b", "0"), ("spent", "10"))

    def test_a_tower_and_a_row_are_apart(self):
        desk = desk_of("a 1 1; b 1 1", "a b")
        self.answers(desk, ("tower 1", "ok"), ("read b", "0"), ("book oldest 1", "a- b-a"), ("again", "ok"))
        self.answers(desk, ("levels", "b /"), ("sizes", "none"))

    def test_two_desks_are_apart(self):
        one, other = desk_of("a 1 1", "a"), Desk()
        one.say("tower 1")
        self.refuses(other, "NotThere", "rest")
        self.refuses_at(other, "Unknown", "ask a", "a", 0)
        self.answers(other, ("thing b 1 1", "ok"), ("ask b", "row 1"))
        self.refuses_at(one, "Unknown", "ask b", "b", 1)


class TestTexts(unittest.TestCase):
    def test_no_line(self):
        self.assertEqual(answers_to(""), [])

    def test_one_line(self):
        self.assertEqual(answers_to("thing a 1 1"), [(True, "ok")])
        self.assertEqual(answers_to("again"), [(True, "ok")])
        self.assertEqual(answers_to("run oldest 1"), [(True, "missed 0 paid 0 left")])
        self.assertEqual(answers_to(" "), [(False, "no line")])
        self.assertEqual(answers_to("x"), [(False, "no line")])

    def test_line_ends(self):
        self.assertEqual(answers_to("\n"), [(False, "no line")] * 2)
        self.assertEqual(answers_to("again\n"), [(True, "ok"), (False, "no line")])
        self.assertEqual(answers_to("\nagain"), [(False, "no line"), (True, "ok")])
        self.assertEqual(answers_to("again\n\n\nagain"), [(True, "ok")] + [(False, "no line")] * 2 + [(True, "ok")])
        # Nothing but a line feed ends a line.
        for sign in ("\r", "\r\n", "\v", "\f", "\u2028", "\x85", "\x1c"):
            self.assertEqual(answers_to("again" + sign + "again")[0], (False, "no line"))

    def test_a_story_with_refusals(self):
        text = "\n".join([
            "thing a 3 1", "thing a 3 1", "thing B 3 1", "thing b 10 01", "thing b 10 2", "ask a c", "ask a b a",
            "run oldest 1", "run oldest 3", "run oldes 3", "book oldest 2", "levels", "tower 1", "best 3",
            "ask" + " a" * 198, "again", "sizes",
        ])
        self.assertEqual(answers_to(text), [
            (True, "ok"), (False, "twice"), (False, "no name"), (False, "no number"), (True, "ok"), (False, "unknown"),
            (True, "row 3"), (False, "too wide"), (True, "missed 2 paid 13 left a b"), (False, "no rule"),
            (True, "a- b-a a-b"), (False, "not there"), (False, "unlike"), (False, "unlike"), (False, "too many"),
            (True, "ok"), (True, "none"),
        ])

    def test_each_text_has_a_new_desk(self):
        for _ in range(2):
            answers = answers_to("ask a\nthing a 1 1\nask a")
            self.assertEqual(answers, [(False, "unknown"), (True, "ok"), (True, "row 1")])

    def test_the_kinds(self):
        answers = answers_to("\n".join(STORY + ("x", "levels")))
        self.assertIs(type(answers), list)
        for answer in answers:
            self.assertIs(type(answer), tuple)
            self.assertEqual([type(part) for part in answer], [bool, str])
            self.assertTrue(answer[0] or answer[1] in WORDS.values())
        answers.clear()
        self.assertEqual(len(answers_to("\n".join(STORY))), len(STORY))

    def test_a_long_text(self):
        lines = ["thing a 1 1"] + ["ask a" + " a" * 199, "again"] * 240
        self.assertGreater(len("\n".join(lines)), 90000)
        self.assertEqual(answers_to("\n".join(lines)), [(True, "ok")] + [(True, "row 200"), (True, "ok")] * 240)


if __name__ == "__main__":
    unittest.main()
