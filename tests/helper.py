"""What the tests share: how refusals are seen, stocks and rows, and runs made by hand."""

import itertools
import random
from fractions import Fraction

from castoff import errors
from castoff.dues import Dues
from castoff.rules import Farthest, First, Halving, Oldest, Ranked, Rule, book_of
from castoff.stock import Stock
from castoff.turns import Hand, Rows

PLAIN_WORDS = {
    "CastError": "refused",
    "NoName": "no name",
    "NoNumber": "no number",
    "Twice": "twice",
    "TooMany": "too many",
    "There": "there",
    "NotThere": "not there",
    "Full": "full",
    "BadPaper": "bad paper",
    "NoRule": "no rule",
    "Unlike": "unlike",
    "NoLine": "no line",
}
NAMED_WORDS = {"Unknown": "unknown", "TooWide": "too wide"}
PLACED_WORDS = {"BadBook": "bad book"}
WORDS = {**PLAIN_WORDS, **NAMED_WORDS, **PLACED_WORDS}


def class_called(title):
    return getattr(errors, title)


def assert_is_refusal(case, error, title):
    """The error is of the class, of CastError and ValueError, and of no other class."""
    case.assertIs(type(error), class_called(title))
    case.assertIsInstance(error, errors.CastError)
    case.assertIsInstance(error, ValueError)
    for other in WORDS:
        if other not in (title, "CastError"):
            case.assertNotIsInstance(error, class_called(other))
    case.assertEqual(error.word(), WORDS[title])


def assert_refused(case, title, call, *given):
    """The call is refused by that class alone, twice alike; the refusal is given back."""
    for taker in (class_called(title), errors.CastError, ValueError):
        try:
            answer = call(*given)
        except taker as error:
            assert_is_refusal(case, error, title)
            refusal = error
        else:
            case.fail(f"{given!r:.200} was answered by {answer!r:.200}, not refused with {title}")
    return refusal


# Whatever is no number of places, of whatever kind it is.
NO_PLACES = (0, -1, 10 ** 6 + 1, 10 ** 30, True, False, None, "3", "", 3.0, [3], [], (3,), (), {}, {3: 3}, object())


def words(text):
    return text.split()


def ratios(text):
    """Ratios as 1/2 0 7 tells them."""
    return [Fraction(word).as_integer_ratio() for word in text.split()]


def stock_of(text):
    """A stock of things like a3: its name a, its room 3; the costs are 1, 10, 100 and so on."""
    rows = []
    for number, word in enumerate(text.split()):
        rows.append((word[0], 10 ** number, int(word[1:] or "1")))
    return Stock(rows)


def wide_stock(many, room_by):
    return Stock([(f"t{number}", number, room_by(number)) for number in range(many)])


def book_from(text):
    """A book from words as a- b- a+ c-b,a: a miss, another, a hit, and a miss for which b and a went."""
    rows = []
    for word in text.split():
        sign = "+" if "+" in word else "-"
        name, _, gone = word.partition(sign)
        rows.append((name, sign == "+", gone.split(",") if gone else []))
    return rows


def short_rows(names, most):
    for long in range(most + 1):
        for row in itertools.product(names, repeat=long):
            yield list(row)


def long_rows(names, many):
    """Rows of many lengths, the same ones each time, in which some things are asked more often."""
    dice = random.Random(many)
    for number in range(many):
        some = dice.sample(names, dice.randint(1, len(names)))
        long = dice.choice((9, 40, 200))
        yield [some[min(dice.randrange(len(some)), dice.randrange(len(some)))] for _ in range(long)]


def short_cases():
    """Stocks, places and all short rows, of room 1 and of unlike rooms."""
    for text, least in (("d c b a", 1), ("a3 b c2 d", 3)):
        for asks in short_rows("abcd", 5):
            for places in (least, least + 1, least + 2):
                yield stock_of(text), places, asks


def long_cases():
    """Stocks, places and long rows, of room 1 and of unlike rooms, with one place and with a million among them."""
    for many, widest in ((60, 1), (60, 7), (9, 1), (9, 3)):
        stock = wide_stock(many, lambda number: 1 + number % widest)
        for asks in long_rows(stock.names(), 12):
            for places in (widest, widest + 2, 3 * widest + 2, 10 ** 6):
                yield stock, places, asks


def drawn_case(dice, things, longest, widest=1):
    """A stock of some things of unlike costs, 0 among them, their rooms up to the widest, and a row of asks."""
    names = "abcdefgh"[:dice.randint(1, things)]
    costs = [dice.choice((0, 1, 7, dice.randint(0, 99))) for _ in names]
    stock = Stock([(name, cost, dice.randint(1, widest)) for name, cost in zip(names, costs)])
    return stock, [dice.choice(names) for _ in range(dice.randint(0, longest))]


def widest_of(stock, asks):
    return max(map(stock.room_of, asks), default=1)


def rules_for(stock, places, asks):
    return [
        Rule(stock, places), Ranked(stock, places), Oldest(stock, places), First(stock, places),
        Halving(stock, places), Halving(stock, places, 1), Farthest(stock, places, asks), Hand(stock, places),
        Rows(stock, places), Dues(stock, places),
    ]


def gaps_between(asks):
    """Each gap as its thing and the numbers of the asks strictly between."""
    gaps = []
    for start in range(len(asks)):
        for end in range(start + 1, len(asks)):
            if asks[start] == asks[end] and asks[start] not in asks[start + 1:end]:
                gaps.append((asks[start], range(start + 1, end)))
    return gaps


def plain_floor(stock, asks, places, prices):
    """The floor that prices set, as the document words it, sum by sum."""
    prices = [Fraction(*price) for price in prices]
    floor = Fraction(sum(map(stock.cost_of, set(asks))))
    for name, between in gaps_between(asks):
        floor += min(stock.cost_of(name), stock.room_of(name) * sum(prices[number] for number in between))
    for name, price in zip(asks, prices):
        floor -= price * (places - stock.room_of(name))
    return floor.as_integer_ratio()


def plain_run(stock, places, asks, pick):
    """A book made by hand: pick tells what goes, from all asks, the present one's number and the shelf."""
    shelf = []
    book = []
    for number, name in enumerate(asks):
        there = name in shelf
        went = []
        while not there and sum(map(stock.room_of, shelf)) + stock.room_of(name) > places:
            went.append(pick(asks, number, list(shelf)))
            shelf.remove(went[-1])
        if not there:
            shelf.append(name)
        book.append((name, there, went))
    return book


def some_of(things):
    """All choices of some of the things, none and all of them too."""
    for many in range(len(things) + 1):
        yield from itertools.combinations(things, many)


def lawful_books(stock, asks, places, lying=()):
    """All lawful books of a row, but for the order of going: those that cast off more than is needed, too."""
    if not asks:
        yield []
        return
    name, there = asks[0], asks[0] in lying
    for gone in some_of([other for other in lying if other != name]):
        left = [other for other in lying if other not in gone] + ([] if there else [name])
        if sum(map(stock.room_of, left)) <= places:
            for rest in lawful_books(stock, asks[1:], places, left):
                yield [(name, there, list(gone))] + rest


def ways_by_sets(stock, asks, places):
    """Behind each ask all sets of things that may lie on the shelf, with the least that was paid for each."""
    ways = {frozenset(): 0}
    for name in asks:
        behind = {}
        for lying, paid in ways.items():
            paid += 0 if name in lying else stock.cost_of(name)
            for kept in some_of(sorted(lying - {name})):
                now = frozenset(kept) | {name}
                if sum(map(stock.room_of, now)) <= places:
                    behind[now] = min(paid, behind.get(now, paid))
        ways = behind
        yield ways


def cheapest_paid(stock, asks, places):
    """What the cheapest lawful book pays, by all that may lie on the shelf behind each ask."""
    least = 0
    for ways in ways_by_sets(stock, asks, places):
        least = min(ways.values())
    return least


class Watch(Rule):
    """Hands all on to another rule and writes down each call, with what the rule tells behind it."""

    def __init__(self, rule, tell=lambda rule: None):
        super().__init__(rule.stock, rule.places)
        self.rule = rule
        self.tell = tell
        self.seen = []

    def hand_on(self, title, given):
        answer = getattr(self.rule, title)(given)
        self.seen.append((title, given, self.tell(self.rule)))
        return answer

    def asked(self, name):
        return self.hand_on("asked", name)

    def choice(self, lying):
        return self.hand_on("choice", lying)

    def gone(self, name):
        return self.hand_on("gone", name)

    def came(self, name):
        return self.hand_on("came", name)


class RowTests:
    """The rows over which the book of each rule is held, by each_book, against a second telling of the rule."""

    def test_short_rows(self):
        for stock, places, asks in short_cases():
            self.each_book(stock, places, asks)

    def test_long_rows(self):
        for stock, places, asks in long_cases():
            self.each_book(stock, places, asks)


class RuleTests(RowTests):
    """Tests that each rule of a test's kinds must pass; tell gives what a rule tells besides its choice."""

    def test_one_place(self):
        asks = "a a b a b b".split()
        for kind in self.kinds:
            self.assertEqual(book_of(kind(stock_of("a b"), 1), asks), book_from("a- a+ b-a a-b b-a b+"))

    def test_a_million_places(self):
        stock = wide_stock(60, lambda number: 1000)
        asks = stock.names() + stock.names()[::-1]
        for kind in self.kinds:
            book = book_of(kind(stock, 10 ** 6), asks)
            self.assertEqual([there for name, there, gone in book], [False] * 60 + [True] * 60)
            self.assertEqual([gone for name, there, gone in book], [[]] * 120)

    def test_no_asks(self):
        for kind in self.kinds:
            self.assertEqual(book_of(kind(stock_of("a"), 1), []), [])
            self.assertEqual(book_of(kind(Stock([]), 10 ** 6), []), [])

    def test_fields_and_nests(self):
        stock = stock_of("a b")
        for kind in self.kinds:
            self.assertEqual(kind.__bases__, (Rule,))
            for places in (1, 7, 10 ** 6):
                rule = kind(stock, places)
                self.assertIs(rule.stock, stock)
                self.assertEqual(rule.places, places)
                self.assertIs(rule.nests(), False)
                book_of(rule, ["a", "b"])
                self.assertIs(rule.nests(), False)

    def test_no_places(self):
        for kind in self.kinds:
            for places in NO_PLACES:
                assert_refused(self, "NoNumber", kind, stock_of("a"), places)

    def test_refused_asks_are_no_run(self):
        stock = stock_of("a b c d w5")
        asks = "a b c a b d d a c b a".split()
        for kind in self.kinds:
            rule = kind(stock, 2)
            new = self.tell(kind(stock, 2))
            assert_refused(self, "TooMany", book_of, rule, ["a", "z"] * 101)
            refusal = assert_refused(self, "Unknown", book_of, rule, ["a", "z", "w"])
            self.assertEqual((refusal.name, refusal.place), ("z", 1))
            refusal = assert_refused(self, "TooWide", book_of, rule, ["a", "b", "w", "z"])
            self.assertEqual((refusal.name, refusal.place), ("w", 2))
            self.assertEqual(self.tell(rule), new)
            self.assertEqual(book_of(rule, asks), book_of(kind(stock, 2), asks))

    def test_nothing_is_given_back(self):
        for kind in self.kinds:
            rule = kind(stock_of("a b"), 1)
            self.assertIsNone(rule.asked("a"))
            self.assertIsNone(rule.came("a"))
            self.assertIsNone(rule.asked("a"))
            self.assertIsNone(rule.asked("b"))
            lying = ["a"]
            self.assertEqual(rule.choice(lying), "a")
            self.assertEqual(lying, ["a"])
            self.assertIsNone(rule.gone("a"))
            self.assertIsNone(rule.came("b"))
            self.assertIsNone(rule.asked("a"))

    def test_telling_changes_nothing(self):
        stock = stock_of("a b2 c d3 e")
        for kind in self.kinds:
            for asks in long_rows(stock.names(), 9):
                watched = Watch(kind(stock, 4), self.tell)
                self.assertEqual(self.tell(watched.rule), self.tell(watched.rule))
                self.assertEqual(book_of(watched, asks), book_of(kind(stock, 4), asks))

    def test_the_same_again(self):
        asks = "a b c a b d d a c b a".split()
        for kind in self.kinds:
            one, other = kind(stock_of("a b c d"), 2), kind(stock_of("a b c d"), 2)
            self.assertEqual(book_of(one, asks), book_of(other, asks))
            self.assertEqual(self.tell(one), self.tell(other))
            self.assertEqual(self.tell(one), self.tell(one))

    def test_the_lists_of_a_book_are_apart(self):
        asks = "a a b c c a".split()
        for kind in self.kinds:
            rule = kind(stock_of("a b c"), 2)
            book = book_of(rule, asks)
            before = self.tell(rule)
            again = book_of(kind(stock_of("a b c"), 2), asks)
            for name, there, gone in book:
                gone.append("z")
            self.assertEqual(self.tell(rule), before)
            self.assertEqual([(name, there, gone[:-1]) for name, there, gone in book], again)
