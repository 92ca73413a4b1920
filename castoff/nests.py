"""Rules by their words, and what a lesser shelf holds that a greater one by the same rule does not."""

from castoff.books import check_asks, lying_after
from castoff.dues import Dues
from castoff.errors import NoNumber, NoRule
from castoff.ratios import is_within
from castoff.rules import Farthest, First, Halving, Oldest, book_of
from castoff.shelf import MOST_PLACES, check_places
from castoff.stock import LETTERS, Stock
from castoff.turns import Hand, Rows

MOST_SEARCHED = 4
MOST_LONG = 6
MOST_WORSE = 20


def make_oldest(stock, places, asks):
    return Oldest(stock, places)


def make_first(stock, places, asks):
    return First(stock, places)


def make_halving(stock, places, asks):
    return Halving(stock, places)


def make_farthest(stock, places, asks):
    return Farthest(stock, places, asks)


def make_hand(stock, places, asks):
    return Hand(stock, places)


def make_rows(stock, places, asks):
    return Rows(stock, places)


def make_dues(stock, places, asks):
    return Dues(stock, places)


MAKERS = {
    "oldest": make_oldest,
    "first": make_first,
    "halving": make_halving,
    "farthest": make_farthest,
    "hand": make_hand,
    "rows": make_rows,
    "dues": make_dues,
}


def maker_of(word):
    # Only a text is sure to be fit for looking up.
    if not isinstance(word, str) or word not in MAKERS:
        raise NoRule("there is no rule of that word")
    return MAKERS[word]


def check_greater(lesser, greater):
    if not is_within(greater, lesser, MOST_PLACES):
        raise NoNumber(f"the greater places are not a whole number from the lesser ones to {MOST_PLACES}")


def lying_by(make, stock, asks, places):
    # A maker of the asker's own has a row of its own: whatever it does to it, the run goes over the row told.
    rule = make(stock, places, list(asks))
    return lying_after(stock, asks, places, book_of(rule, asks))


def first_lack(stock, asks, lesser, greater, make):
    check_asks(stock, asks, lesser)
    check_greater(lesser, greater)
    held = lying_by(make, stock, asks, lesser)
    offered = lying_by(make, stock, asks, greater)
    for number, names in enumerate(held):
        lacking = [name for name in names if name not in offered[number]]
        if lacking != []:
            return (number, sorted(lacking))
    return None


def check_search(many, long, lesser, greater):
    if not is_within(many, 1, MOST_SEARCHED):
        raise NoNumber(f"the things of a search are not a whole number from 1 to {MOST_SEARCHED}")
    if not is_within(long, 1, MOST_LONG):
        raise NoNumber(f"the asks of a search are not a whole number from 1 to {MOST_LONG}")
    check_places(lesser)
    check_greater(lesser, greater)


def longer_rows(rows, names):
    longer = []
    for row in rows:
        # A thing may come behind those that were asked, or as the first one that was not.
        for name in names[:len(set(row)) + 1]:
            longer.append(row + [name])
    return longer


def first_row(make, many, long, lesser, greater):
    check_search(many, long, lesser, greater)
    names = list(LETTERS[:many])
    stock = Stock([(name, 1, 1) for name in names])
    rows = [[]]
    for more in range(long):
        rows = longer_rows(rows, names)
        for row in rows:
            if first_lack(stock, row, lesser, greater, make) is not None:
                return row
    return None


def row_of_rounds(places):
    names = list(LETTERS[:places + 2])
    return names[:-1] + names[:places - 1] + names[-1:] + names


def row_of_pairs(places):
    names = list(LETTERS[:places + 5])
    row = []
    for name in names[:places + 1]:
        row.extend([name, name])
    return row + names[-4:-2] * 2 + names[:1] + names[-2:] * 2


# For each rule the least places for which its row is told, and how the row is made.
WORSE = {"first": (3, row_of_rounds), "hand": (3, row_of_rounds), "rows": (2, row_of_pairs)}


def worse_row(word, places):
    if not isinstance(word, str) or word not in WORSE:
        raise NoRule("no such row is told for that word")
    least = WORSE[word][0]
    if not is_within(places, least, MOST_WORSE):
        raise NoNumber(f"such a row is told of a whole number of places from {least} to {MOST_WORSE}")
    make = WORSE[word][1]
    return make(places)
