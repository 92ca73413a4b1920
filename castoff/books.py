"""Rows of asks looked at ahead of a run, and the books that tell of runs."""

from castoff.errors import BadBook, TooMany, TooWide, Unknown, Unlike
from castoff.shelf import Shelf, check_places
from castoff.words import MOST_ASKS


def check_asks(stock, asks, places):
    check_places(places)
    if len(asks) > MOST_ASKS:
        raise TooMany(f"a row has at most {MOST_ASKS} asks")
    for number, name in enumerate(asks):
        if not stock.has(name):
            raise Unknown(name, number)
        if stock.room_of(name) > places:
            raise TooWide(name, number)
    return True


def check_rooms(stock, asks):
    for name in asks:
        if stock.room_of(name) != 1:
            raise Unlike(f"{name} has another room than 1")


def earlier_asks(asks):
    # An ask with its earlier one is a gap of the row; a first ask has none, and None keeps its place.
    last = {}
    told = []
    for number, name in enumerate(asks):
        told.append(last.get(name))
        last[name] = number
    return told


def casts_off(shelf, name, gone):
    for other in gone:
        # Looked at one by one: a name that stands twice is not there the second time.
        if other == name or not shelf.holds(other):
            return False
        shelf.cast(other)
    return True


def serves(shelf, name, row):
    # A row at fault ends the walk, so the shelf may be left half served.
    there = shelf.holds(name)
    if row[0] != name or row[1] != there:
        return False
    if not casts_off(shelf, name, row[2]):
        return False
    if there:
        return True
    if shelf.stock.room_of(name) > shelf.room_left():
        return False
    shelf.put(name)
    return True


def lying_after(stock, asks, places, book):
    check_asks(stock, asks, places)
    shelf = Shelf(stock, places)
    told = []
    for name, row in zip(asks, book):
        if not serves(shelf, name, row):
            raise BadBook(len(told))
        told.append(shelf.lying())
    # The walk ends with the shorter of the two, so told is as long as that one.
    if len(asks) != len(book):
        raise BadBook(len(told))
    return told


def weighed(book, weigh):
    return sum([weigh(row[0]) for row in book if not row[1]])


def missed_by(book):
    return weighed(book, lambda name: 1)


def paid_by(stock, book):
    return weighed(book, lambda name: stock.cost_of(name))
