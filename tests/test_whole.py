"""The whole program: stories told by lines and by functions, what holds over all files, and what stays as it was."""

import copy
import random
import re
import unittest

from castoff.best import best_of
from castoff.books import check_asks, lying_after, missed_by, paid_by, weighed
from castoff.desk import Desk, answers_to
from castoff.dues import Dues
from castoff.errors import CastError, NoLine, NoName, NoNumber, NoRule, NotThere, TooMany, Unknown
from castoff.nests import first_lack, first_row, maker_of, worse_row
from castoff.papers import floor_of
from castoff.parts import floor_by_parts, missed_in, parts_of
from castoff.ratios import ratio_of, times_ratio, under_ratio
from castoff.rules import Farthest, First, Halving, Oldest, book_of
from castoff.stock import Stock
from castoff.tower import Prompt, Tower
from castoff.turns import Hand, Rows
from castoff.walks import depths_of, stack_depths, step_at, steps_of
from castoff.ways import ways_of
from castoff.words import read_asks, read_number, read_stock, show_asks, show_stock
from tests.helper import cheapest_paid, drawn_case, rules_for, widest_of

RULES = {
    "oldest": lambda stock, places, asks: Oldest(stock, places),
    "first": lambda stock, places, asks: First(stock, places),
    "halving": lambda stock, places, asks: Halving(stock, places, 8),
    "farthest": Farthest,
    "hand": lambda stock, places, asks: Hand(stock, places),
    "rows": lambda stock, places, asks: Rows(stock, places),
    "dues": lambda stock, places, asks: Dues(stock, places),
}
# Behind each first word its kinds: n a name, r a rule, i a number; the last one may be followed by a +.
FORMS = {
    "thing": "nii", "ask": "n+", "again": "", "run": "ri", "book": "ri", "holds": "rii", "even": "rii", "best": "i",
    "ways": "i", "sizes": "", "parts": "i", "tower": "i+", "prompt": "i+", "read": "n", "keep": "ni", "ahead": "n",
    "rest": "", "store": "n", "levels": "", "found": "", "spent": "",
}
WRONG = ("", "A", "01", "-1", "x" * 9, "9" * 32, "Oldest", "rows,", "1a")


class ByFunctions:
    """A desk of the tests' own: it reads lines by patterns and answers by calls of the functions."""

    def __init__(self):
        self.rows = []
        self.asks = []
        self.tower = None

    def say(self, line):
        first, *given = line.split(" ")
        form = FORMS.get(first)
        if form is None or not re.fullmatch(re.sub("[a-z]", "[.]", form), "." * len(given)):
            raise NoLine(line)
        kinds = form[0] * len(given) if "+" in form else form
        return getattr(self, "do_" + first)(*[self.read(kind, word) for kind, word in zip(kinds, given)])

    def read(self, kind, word):
        if kind == "n":
            if not re.fullmatch("[a-z][a-z0-9]{0,7}", word):
                raise NoName(word)
            return word
        if kind == "r":
            if word not in RULES:
                raise NoRule(word)
            return RULES[word]
        if not re.fullmatch("0|[1-9][0-9]{0,30}", word):
            raise NoNumber(word)
        return int(word)

    def stock(self):
        return Stock(list(self.rows))

    def standing(self):
        if self.tower is None:
            raise NotThere("")
        return self.tower

    def do_thing(self, name, cost, room):
        Stock(self.rows + [(name, cost, room)])
        self.rows.append((name, cost, room))
        return "ok"

    def do_ask(self, *names):
        row = self.asks + list(names)
        if len(row) > 200:
            raise TooMany("")
        for number, name in enumerate(row):
            if not self.stock().has(name):
                raise Unknown(name, number)
        self.asks = row
        return "row %d" % len(row)

    def do_again(self):
        self.asks = []
        return "ok"

    def book(self, make, places):
        check_asks(self.stock(), self.asks, places)
        return book_of(make(self.stock(), places, self.asks), self.asks)

    def do_run(self, make, places):
        book = self.book(make, places)
        lying = []
        for name, there, gone in book:
            lying = [other for other in lying if other not in gone] + ([] if there else [name])
        costs = [cost for row in book if not row[1] for name, cost, room in self.rows if name == row[0]]
        return ("missed %d paid %d left %s" % (len(costs), sum(costs), " ".join(lying))).rstrip()

    def do_book(self, make, places):
        told = ""
        for name, there, gone in self.book(make, places):
            told += f" {name}{'-+'[there]}{','.join(gone)}"
        return told[1:] or "none"

    def do_holds(self, make, lesser, greater):
        lack = first_lack(self.stock(), self.asks, lesser, greater, make)
        return "no %d %s" % (lack[0], " ".join(lack[1])) if lack else "yes"

    def do_even(self, make, places, fewer):
        paid = paid_by(self.stock(), self.book(make, places))
        best = best_of(self.stock(), self.asks, fewer)[0]
        return re.sub("/1$", "", "%d/%d" % ratio_of(paid, best)) if best else "none"

    def do_best(self, places):
        return "paid %d" % best_of(self.stock(), self.asks, places)[0]

    def do_ways(self, places):
        return "paid %d" % ways_of(self.stock(), self.asks, places)[0]

    def do_sizes(self):
        return " ".join("%d:%d:%d" % step for step in steps_of(self.stock(), self.asks)) or "none"

    def do_parts(self, most):
        return str(len(parts_of(self.asks, most)))

    def do_tower(self, *sizes):
        self.tower = Tower(self.stock(), list(sizes))
        return "ok"

    def do_prompt(self, *sizes):
        self.tower = Prompt(self.stock(), list(sizes))
        return "ok"

    def do_read(self, name):
        return str(self.standing().read(name))

    def do_keep(self, name, value):
        self.standing().keep(name, value)
        return "ok"

    def do_ahead(self, name):
        return {True: "yes", False: "no"}[self.standing().ahead(name)]

    def do_rest(self):
        return str(self.standing().rest())

    def do_store(self, name):
        return str(self.standing().stored(name))

    def do_levels(self):
        return "".join("".join(name + " " for name in names) + "/ " for names in self.standing().levels())[:-1]

    def do_found(self):
        return " ".join(map(str, self.standing().found()))

    def do_spent(self):
        return str(self.standing().spent())


def drawn_word(dice, kind, widest):
    if dice.randrange(60) == 0:
        return dice.choice(WRONG)
    if kind == "n":
        return dice.choice("abcdefgh" if dice.randrange(20) == 0 else "abcde")
    if kind == "r":
        return dice.choice(list(RULES))
    return str(dice.choice((dice.randint(1, widest), dice.randint(1, widest), dice.randint(2, 9), dice.randint(0, 2))))


def drawn_line(dice, widest):
    if dice.randrange(80) == 0:
        return dice.choice(("", " ", "thing", "asks a", "run oldest  2", "levels ", " rest", "best 1 1", "Again"))
    first = dice.choice(["ask"] * 5 + ["read", "keep"] * 2 + [word for word in FORMS if word != "thing"])
    # A new row begins less often than asks come, so that rows grow long.
    if first == "again" and dice.randrange(4):
        first = "ask"
    kinds = FORMS[first].replace("i+", "i" * dice.randint(1, 4)).replace("n+", "n" * dice.randint(1, 9))
    return " ".join([first] + [drawn_word(dice, kind, widest) for kind in kinds])


def drawn_story(dice, widest):
    lines = []
    for name in "abcde":
        room = dice.randint(1, widest)
        lines.append(f"thing {name} {dice.choice((0, 1, 7, dice.randint(0, 99), 10 ** 30))} {room}")
    for _ in range(60):
        line = drawn_line(dice, widest)
        if dice.randrange(25) == 0:
            line = f"thing {dice.choice('abfgh')} {dice.randint(0, 9)} {dice.randint(0, widest)}"
        lines.append(line)
    return lines


def answer_of(desk, line):
    try:
        return (True, desk.say(line))
    except CastError as refusal:
        place = getattr(refusal, "place", None)
        return (False, refusal.word(), getattr(refusal, "name", None), place)


class TestStories(unittest.TestCase):
    def test_by_lines_and_by_functions(self):
        dice = random.Random(62)
        seen = {}
        for number in range(400):
            lines = drawn_story(dice, 1 + number % 4 // 2 * 2)
            desk, functions = Desk(), ByFunctions()
            told = []
            for line in lines:
                answer = answer_of(desk, line)
                self.assertEqual(answer, answer_of(functions, line), line)
                told.append(answer[:2])
                first = line.partition(" ")[0]
                seen.setdefault((first if first in FORMS else "", answer[0] or answer[1]), line)
            self.assertEqual(answers_to("\n".join(lines)), told)
        # Each line was answered, and each was refused for more than its form, where that may be.
        for first in FORMS:
            self.assertIn((first, True), seen)
        for pair in (
            ("thing", "twice"), ("thing", "no number"), ("ask", "unknown"), ("ask", "no name"), ("run", "too wide"),
            ("run", "no rule"), ("book", "too wide"), ("holds", "no number"), ("even", "unlike"), ("even", "too many"),
            ("best", "too wide"), ("ways", "too many"), ("parts", "no number"), ("tower", "unlike"),
            ("prompt", "no number"), ("read", "not there"), ("read", "unknown"), ("keep", "not there"), ("", "no line"),
        ):
            self.assertIn(pair, seen)

    def test_a_row_and_a_stock_told_by_texts(self):
        dice = random.Random(63)
        for _ in range(100):
            stock, asks = drawn_case(dice, 6, 40, 3)
            lines = ["thing " + thing for thing in show_stock(stock).split("; ")]
            lines += ["ask " + show_asks(asks)] if asks else []
            places = widest_of(stock, asks) + dice.randint(0, 4)
            desk = Desk()
            for line in lines:
                desk.say(line)
            for word in RULES:
                book = book_of(maker_of(word)(stock, places, asks), asks)
                told = desk.say(f"run {word} {places}").split(" ")
                self.assertEqual([read_number(told[1]), read_number(told[3])], [missed_by(book), paid_by(stock, book)])
                lying = lying_after(stock, asks, places, book)
                self.assertEqual(told[5:], lying[-1] if lying else [])
                self.assertEqual(desk.say(f"book {word} {places}").count("-"), missed_by(book))


class TestTheWhole(unittest.TestCase):
    """What the fifth point sums up, over drawn stocks and rows."""

    def test_rules_floors_and_the_best(self):
        dice = random.Random(51)
        for number in range(150):
            stock, asks = drawn_case(dice, 6, 30, 1 + number % 3)
            places = widest_of(stock, asks) + dice.randint(0, 3)
            least, best, table = ways_of(stock, asks, places)
            self.assertEqual(least, cheapest_paid(stock, asks, places))
            self.assertEqual(paid_by(stock, best), least)
            prices = [ratio_of(dice.randint(0, 9), dice.randint(1, 4)) for _ in asks]
            self.assertFalse(under_ratio((least, 1), floor_of(stock, asks, places, prices)))
            for rule in rules_for(stock, places, asks):
                book = book_of(rule, asks)
                self.assertEqual(len(lying_after(stock, asks, places, book)), len(asks))
                self.assertGreaterEqual(paid_by(stock, book), least)
                self.assertGreaterEqual(missed_by(book), floor_by_parts(asks, places, places))
            if number % 3 == 0:
                paid, book, prices = best_of(stock, asks, places)
                self.assertEqual((paid, floor_of(stock, asks, places, prices)), (least, (least, 1)))
                self.assertEqual(paid_by(stock, book), least)

    def test_sizes(self):
        dice = random.Random(52)
        for number in range(80):
            stock, asks = drawn_case(dice, 7, 60, 1 + number % 3)
            steps = steps_of(stock, asks)
            for places in range(widest_of(stock, asks), 24) if asks else ():
                book = book_of(Oldest(stock, places), asks)
                self.assertEqual(step_at(steps, places), (missed_by(book), paid_by(stock, book)))
                there = [depth is not None and depth <= places for depth in depths_of(stock, asks)]
                self.assertEqual(there, [row[1] for row in book])
            if number % 3 == 0:
                for word in ("oldest", "halving", "farthest"):
                    depths = stack_depths(maker_of(word)(stock, 3, asks), asks)
                    for places in (1, 2, 3, 5):
                        book = book_of(maker_of(word)(stock, places, asks), asks)
                        there = [depth is not None and depth <= places for depth in depths]
                        self.assertEqual(there, [row[1] for row in book])

    def test_dues_against_all_ways(self):
        dice = random.Random(53)
        for number in range(80):
            stock, asks = drawn_case(dice, 6, 30, 1 + number % 3)
            widest = widest_of(stock, asks)
            places = widest + dice.randint(0, 4)
            rule = Dues(stock, places)
            paid = paid_by(stock, book_of(rule, asks))
            for fewer in range(widest, places + 1):
                share = (paid * (places - fewer + 1), 1)
                floor = floor_of(stock, asks, fewer, rule.prices())
                self.assertFalse(under_ratio(times_ratio(floor, (places, 1)), share))
                self.assertLessEqual(share[0], ways_of(stock, asks, fewer)[0] * places)

    def test_a_tower_and_the_best(self):
        dice = random.Random(54)
        for number in range(80):
            stock, asks = drawn_case(dice, 7, 40)
            sizes = [dice.randint(1, 2) for _ in range(1 + number % 6)]
            tower = (Tower, Prompt)[number % 2](stock, sizes)
            kept = {}
            for turn, name in enumerate(asks):
                self.assertEqual(tower.read(name), kept.get(name, 0))
                if dice.randrange(3) == 0:
                    kept[name] = turn
                    tower.keep(name, turn)
            self.assertGreaterEqual(tower.spent(), best_of(stock, asks, sum(sizes))[0])
            tower.rest()
            self.assertEqual([tower.stored(name) for name in stock.names()], [kept.get(n, 0) for n in stock.names()])


def spoil(answer):
    """Changes all lists and dicts that were given back, those within others too."""
    if isinstance(answer, (list, tuple)):
        for part in answer:
            spoil(part)
    if isinstance(answer, list):
        answer.reverse()
        answer.append("spoiled")
    if isinstance(answer, dict):
        answer.clear()


class TestNothingIsChanged(unittest.TestCase):
    def calls(self):
        """Functions, each with what it is handed: its lists must stay as they are."""
        stock = read_stock("a 3 1; b 10 1; c 5 1; d 0 1")
        wide = read_stock("a 3 1; b 10 2; c 5 4")
        asks = read_asks("a b c a d b b a")
        book = book_of(Oldest(stock, 2), asks)
        prices = [(1, 2), (0, 1), (3, 1), (0, 1), (0, 1), (1, 1), (0, 1), (2, 3)]
        return [
            (Stock, [("a", 3, 1), ("b", 10, 2)]), (show_asks, asks), (check_asks, stock, asks, 2),
            (lying_after, stock, asks, 2, book), (weighed, book, len), (missed_by, book), (paid_by, stock, book),
            (lambda row: book_of(Farthest(stock, 2, row), row), asks), (depths_of, wide, ["a", "b", "b", "c", "a"]),
            (steps_of, wide, ["a", "b", "b", "c", "a"]), (step_at, [(4, 4, 21), (7, 3, 18)], 5),
            (lambda row: stack_depths(Oldest(stock, 2), row), asks), (floor_of, stock, asks, 2, prices),
            (best_of, stock, asks, 2), (ways_of, stock, asks, 2), (parts_of, asks, 2),
            (missed_in, book, [(0, 3), (2, 8), (4, 4)]), (floor_by_parts, asks, 2, 1),
            (first_lack, stock, asks, 2, 3, maker_of("first")), (first_lack, stock, asks, 2, 3, maker_of("farthest")),
            (first_row, maker_of("first"), 4, 5, 2, 3), (worse_row, "rows", 4), (Tower, stock, [1, 2]),
            (Prompt, stock, [3]), (answers_to, "thing a 1 1\nask a a\nbook oldest 1\nx"),
        ]

    def test_what_is_handed_in_stays_as_it_is(self):
        for call, *given in self.calls():
            before = [copy.deepcopy(part) for part in given if isinstance(part, list)]
            call(*given)
            self.assertEqual([part for part in given if isinstance(part, list)], before)

    def test_what_is_given_back_is_the_askers_own(self):
        for call, *given in self.calls():
            if call in (Stock, Tower, Prompt):
                continue
            first = call(*given)
            right = copy.deepcopy(first)
            spoil(first)
            second = call(*given)
            self.assertEqual(second, right)
            self.assertEqual(call(*given), second)

    def test_what_is_kept_is_kept_as_a_copy(self):
        rows = [("a", 3, 1), ("b", 10, 1), ("c", 1, 1)]
        stock = Stock(rows)
        rows.clear()
        self.assertEqual(stock.names(), ["a", "b", "c"])
        asks = ["a", "b", "c", "a"]
        rule = Farthest(stock, 2, asks)
        asks.reverse()
        self.assertEqual(book_of(rule, ["a", "b", "c", "a"])[2], ("c", False, ["b"]))
        sizes = [1]
        tower = Tower(stock, sizes)
        sizes[0] = 9
        tower.read("a")
        tower.read("b")
        self.assertEqual(tower.levels(), [["b"]])


if __name__ == "__main__":
    unittest.main()
