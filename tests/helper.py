"""What the tests share: how refusals are seen, stocks and rows, and runs made by hand."""

import itertools
import random

from castoff import errors
from castoff.rules import Rule
from castoff.stock import Stock

PLAIN_WORDS = {
    "CastError": "refused",
    "NoName": "no name",
    "NoNumber": "no number",
    "Twice": "twice",
    "TooMany": "too many",
    "There": "there",
    "NotThere": "not there",
    "Full": "full",
    "BadPaper": "bad paper",
    "NoRule": "no rule",
    "Unlike": "unlike",
    "NoLine": "no line",
}
NAMED_WORDS = {"Unknown": "unknown", "TooWide": "too wide"}
PLACED_WORDS = {"BadBook": "bad book"}
WORDS = {**PLAIN_WORDS, **NAMED_WORDS, **PLACED_WORDS}


def class_called(title):
    return getattr(errors, title)


def assert_is_refusal(case, error, title):
    """The error is of the class, of CastError and ValueError, and of no other class."""
    case.assertIs(type(error), class_called(title))
    case.assertIsInstance(error, errors.CastError)
    case.assertIsInstance(error, ValueError)
    for other in WORDS:
        if other not in (title, "CastError"):
            case.assertNotIsInstance(error, class_called(other))
    case.assertEqual(error.word(), WORDS[title])


def assert_refused(case, title, call, *given):
    """The call is refused by that class alone, twice alike; the refusal is given back."""
    for taker in (class_called(title), errors.CastError, ValueError):
        try:
            answer = call(*given)
        except taker as error:
            assert_is_refusal(case, error, title)
            refusal = error
        else:
            case.fail(f"{given!r:.200} was answered by {answer!r:.200}, not refused with {title}")
    return refusal


# Whatever is no number of places, of whatever kind it is.
NO_PLACES = (0, -1, 10 ** 6 + 1, 10 ** 30, True, False, None, "3", "", 3.0, [3], [], (3,), (), {}, {3: 3}, object())


def words(text):
    return text.split()


def stock_of(text):
    """A stock of things like a3: its name a, its room 3; the costs are 1, 10, 100 and so on."""
    rows = []
    for number, word in enumerate(text.split()):
        rows.append((word[0], 10 ** number, int(word[1:] or "1")))
    return Stock(rows)


def wide_stock(many, room_by):
    return Stock([(f"t{number}", number, room_by(number)) for number in range(many)])


def book_from(text):
    """A book from words as a- b- a+ c-b,a: a miss, another, a hit, and a miss for which b and a went."""
    rows = []
    for word in text.split():
        sign = "+" if "+" in word else "-"
        name, _, gone = word.partition(sign)
        rows.append((name, sign == "+", gone.split(",") if gone else []))
    return rows


def short_rows(names, most):
    for long in range(most + 1):
        for row in itertools.product(names, repeat=long):
            yield list(row)


def long_rows(names, many):
    """Rows of many lengths, the same ones each time, in which some things are asked more often."""
    dice = random.Random(many)
    for number in range(many):
        some = dice.sample(names, dice.randint(1, len(names)))
        long = dice.choice((9, 40, 200))
        yield [some[min(dice.randrange(len(some)), dice.randrange(len(some)))] for _ in range(long)]


def short_cases():
    """Stocks, places and all short rows, of room 1 and of unlike rooms."""
    for text, least in (("d c b a", 1), ("a3 b c2 d", 3)):
        for asks in short_rows("abcd", 5):
            for places in (least, least + 1, least + 2):
                yield stock_of(text), places, asks


def long_cases():
    """Stocks, places and long rows, of room 1 and of unlike rooms, with one place and with a million among them."""
    for many, widest in ((60, 1), (60, 7), (9, 1), (9, 3)):
        stock = wide_stock(many, lambda number: 1 + number % widest)
        for asks in long_rows(stock.names(), 12):
            for places in (widest, widest + 2, 3 * widest + 2, 10 ** 6):
                yield stock, places, asks


def plain_run(stock, places, asks, pick):
    """A book made by hand: pick tells what goes, from all asks, the present one's number and the shelf."""
    shelf = []
    book = []
    for number, name in enumerate(asks):
        there = name in shelf
        went = []
        while not there and sum(map(stock.room_of, shelf)) + stock.room_of(name) > places:
            went.append(pick(asks, number, list(shelf)))
            shelf.remove(went[-1])
        if not there:
            shelf.append(name)
        book.append((name, there, went))
    return book


def some_of(things):
    """All choices of some of the things, none and all of them too."""
    for many in range(len(things) + 1):
        yield from itertools.combinations(things, many)


def lawful_books(stock, asks, places, lying=()):
    """All lawful books of a row, but for the order of going: those that cast off more than is needed, too."""
    if not asks:
        yield []
        return
    name, there = asks[0], asks[0] in lying
    for gone in some_of([other for other in lying if other != name]):
        left = [other for other in lying if other not in gone] + ([] if there else [name])
        if sum(map(stock.room_of, left)) <= places:
            for rest in lawful_books(stock, asks[1:], places, left):
                yield [(name, there, list(gone))] + rest


def cheapest_paid(stock, asks, places):
    """What the cheapest lawful book pays, by all that may lie on the shelf behind each ask."""
    ways = {frozenset(): 0}
    for name in asks:
        behind = {}
        for lying, paid in ways.items():
            paid += 0 if name in lying else stock.cost_of(name)
            for kept in some_of(sorted(lying - {name})):
                now = frozenset(kept) | {name}
                if sum(map(stock.room_of, now)) <= places:
                    behind[now] = min(paid, behind.get(now, paid))
        ways = behind
    return min(ways.values())


class Watch(Rule):
    """Hands all on to another rule and writes down each call, with what the rule tells behind it."""

    def __init__(self, rule, tell=lambda rule: None):
        super().__init__(rule.stock, rule.places)
        self.rule = rule
        self.tell = tell
        self.seen = []

    def hand_on(self, title, given):
        answer = getattr(self.rule, title)(given)
        self.seen.append((title, given, self.tell(self.rule)))
        return answer

    def asked(self, name):
        return self.hand_on("asked", name)

    def choice(self, lying):
        return self.hand_on("choice", lying)

    def gone(self, name):
        return self.hand_on("gone", name)

    def came(self, name):
        return self.hand_on("came", name)
