"""The desk: told lines of text, it answers with texts.

Each function from answer_thing to answer_spent answers one line: it is handed the desk and what the line gives
behind its first word, read as castoff.lines tells.
"""

from castoff.best import best_of
from castoff.books import check_asks, lying_after, missed_by, paid_by
from castoff.errors import CastError, NotThere
from castoff.lines import read_line
from castoff.nests import first_lack
from castoff.parts import parts_of
from castoff.ratios import ratio_of
from castoff.rules import book_of
from castoff.shelf import MOST_PLACES
from castoff.stock import Stock
from castoff.tower import Prompt, Tower
from castoff.walks import steps_of
from castoff.ways import ways_of


def words_or_none(parts):
    return "none" if parts == [] else " ".join(parts)


def show_row(row):
    return row[0] + ("+" if row[1] else "-") + ",".join(row[2])


def show_step(step):
    return ":".join([str(number) for number in step])


def show_ratio(ratio):
    if ratio[1] == 1:
        return str(ratio[0])
    return "/".join([str(number) for number in ratio])


def show_paid(paid):
    return f"paid {paid}"


def answer_thing(desk, given):
    stock = desk.stock
    earlier = [(name, stock.cost_of(name), stock.room_of(name)) for name in stock.names()]
    desk.stock = Stock(earlier + [tuple(given)])
    return "ok"


def answer_ask(desk, given):
    asks = desk.asks + given
    # Nothing is wider than the greatest shelf, so that only the number of asks and the names are refused.
    check_asks(desk.stock, asks, MOST_PLACES)
    desk.asks = asks
    many = len(asks)
    return f"row {many}"


def answer_again(desk, given):
    desk.asks = []
    return "ok"


def book_by(desk, make, places):
    return book_of(make(desk.stock, places, desk.asks), desk.asks)


def answer_run(desk, given):
    book = book_by(desk, given[0], given[1])
    missed = missed_by(book)
    paid = paid_by(desk.stock, book)
    # Ahead of the first ask the shelf is empty, and behind no ask as well.
    left = ([[]] + lying_after(desk.stock, desk.asks, given[1], book))[-1]
    return " ".join([f"missed {missed}", show_paid(paid), "left"] + left)


def answer_book(desk, given):
    return words_or_none([show_row(row) for row in book_by(desk, given[0], given[1])])


def answer_holds(desk, given):
    lack = first_lack(desk.stock, desk.asks, given[1], given[2], given[0])
    if lack is None:
        return "yes"
    return " ".join(["no", str(lack[0])] + lack[1])


def answer_even(desk, given):
    paid = paid_by(desk.stock, book_by(desk, given[0], given[1]))
    least = best_of(desk.stock, desk.asks, given[2])[0]
    if least == 0:
        return "none"
    return show_ratio(ratio_of(paid, least))


def answer_best(desk, given):
    return show_paid(best_of(desk.stock, desk.asks, given[0])[0])


def answer_ways(desk, given):
    return show_paid(ways_of(desk.stock, desk.asks, given[0])[0])


def answer_sizes(desk, given):
    return words_or_none([show_step(step) for step in steps_of(desk.stock, desk.asks)])


def answer_parts(desk, given):
    return str(len(parts_of(desk.asks, given[0])))


def answer_tower(desk, given):
    desk.tower = Tower(desk.stock, given)
    return "ok"


def answer_prompt(desk, given):
    desk.tower = Prompt(desk.stock, given)
    return "ok"


def tower_of(desk):
    if desk.tower is None:
        raise NotThere("no tower stands")
    return desk.tower


def answer_read(desk, given):
    return str(tower_of(desk).read(given[0]))


def answer_keep(desk, given):
    tower_of(desk).keep(given[0], given[1])
    return "ok"


def answer_ahead(desk, given):
    return "yes" if tower_of(desk).ahead(given[0]) else "no"


def answer_rest(desk, given):
    return str(tower_of(desk).rest())


def answer_store(desk, given):
    return str(tower_of(desk).stored(given[0]))


def answer_levels(desk, given):
    return " ".join([" ".join(names + ["/"]) for names in tower_of(desk).levels()])


def answer_found(desk, given):
    return " ".join([str(number) for number in tower_of(desk).found()])


def answer_spent(desk, given):
    return str(tower_of(desk).spent())


ANSWERS = {
    "thing": answer_thing,
    "ask": answer_ask,
    "again": answer_again,
    "run": answer_run,
    "book": answer_book,
    "holds": answer_holds,
    "even": answer_even,
    "best": answer_best,
    "ways": answer_ways,
    "sizes": answer_sizes,
    "parts": answer_parts,
    "tower": answer_tower,
    "prompt": answer_prompt,
    "read": answer_read,
    "keep": answer_keep,
    "ahead": answer_ahead,
    "rest": answer_rest,
    "store": answer_store,
    "levels": answer_levels,
    "found": answer_found,
    "spent": answer_spent,
}


class Desk:
    def __init__(self):
        self.stock = Stock([])
        self.asks = []
        self.tower = None

    def say(self, line):
        told = read_line(line)
        answer = ANSWERS[told[0]]
        return answer(self, told[1])


def answer_or_word(desk, line):
    try:
        return (True, desk.say(line))
    except CastError as refusal:
        return (False, refusal.word())


def answers_to(text):
    # Cutting the text without signs would give one line.
    if text == "":
        return []
    desk = Desk()
    return [answer_or_word(desk, line) for line in text.split("\n")]
