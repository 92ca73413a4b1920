"""Towers: shelves behind one another, and behind them a store that values may reach late."""

from castoff.books import check_rooms
from castoff.errors import NoNumber
from castoff.ratios import is_within
from castoff.shelf import check_places

MOST_SHELVES = 6


def check_sizes(sizes):
    if len(sizes) < 1 or len(sizes) > MOST_SHELVES:
        raise NoNumber(f"a tower has from one to {MOST_SHELVES} shelves")
    for size in sizes:
        check_places(size)


class Tower:
    def __init__(self, stock, sizes):
        check_sizes(sizes)
        check_rooms(stock, stock.names())
        self.stock = stock
        self.sizes = list(sizes)
        # A shelf has things only where all ahead of it are full: so all shelves are one row, cut at their sizes.
        self.row = []
        self.held = {}
        self.late = {}
        self.store = {}
        self.entries = []
        self.finds = [0] * (len(sizes) + 1)
        self.paid = 0

    def levels(self):
        told = []
        start = 0
        for size in self.sizes:
            told.append(self.row[start:start + size])
            start += size
        return told

    def stored(self, name):
        # The stock is asked alone because it refuses what it does not know.
        self.stock.number_of(name)
        return self.store.get(name, 0)

    def diary(self):
        return list(self.entries)

    def found(self):
        return list(self.finds)

    def spent(self):
        return self.paid

    def shelf_of(self, name):
        self.stock.number_of(name)
        for number, names in enumerate(self.levels()):
            if name in names:
                return number
        # One beyond the last shelf stands for none of them.
        return len(self.sizes)

    def fetch(self, word, name):
        self.paid += self.stock.cost_of(name)
        self.entries.append((word, name))
        self.held[name] = self.stored(name)

    def come(self, name):
        if name in self.row:
            self.row.remove(name)
        self.row.insert(0, name)
        if len(self.row) > sum(self.sizes):
            self.fall_off(self.row.pop())

    def fall_off(self, name):
        if name in self.late:
            self.late.pop(name)
            self.write(name)
        self.held.pop(name)

    def write(self, name):
        self.store[name] = self.held[name]
        self.entries.append(("write", name, self.held[name]))

    def settle(self, name):
        self.late[name] = True

    def read(self, name):
        place = self.shelf_of(name)
        self.finds[place] += 1
        if place == len(self.sizes):
            self.fetch("fetch", name)
        self.come(name)
        return self.held[name]

    def keep(self, name, value):
        place = self.shelf_of(name)
        if not is_within(value, 0 - 10 ** 30, 10 ** 30):
            raise NoNumber("a kept value is not a whole number from -10 ** 30 to 10 ** 30")
        self.finds[place] += 1
        self.held[name] = value
        self.settle(name)
        self.come(name)

    def rest(self):
        names = [name for name in self.row if name in self.late]
        for name in names:
            self.write(name)
        self.late = {}
        return len(names)

    def ahead(self, name):
        if self.shelf_of(name) < len(self.sizes):
            return False
        self.fetch("ahead", name)
        self.come(name)
        return True


class Prompt(Tower):
    def settle(self, name):
        # Written ahead of all else: so nothing is ever late here.
        self.write(name)
