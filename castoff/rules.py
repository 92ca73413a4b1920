"""Rules that say which thing goes, those that go by ranks among them, and their runs."""

from castoff.books import check_asks
from castoff.errors import NoNumber
from castoff.ratios import is_within
from castoff.shelf import Shelf, check_places

MOST_TURN = 200


class Rule:
    def __init__(self, stock, places):
        check_places(places)
        self.stock = stock
        self.places = places

    def nests(self):
        return False

    def asked(self, name):
        pass

    def choice(self, lying):
        return lying[0]

    def gone(self, name):
        pass

    def came(self, name):
        pass


class Ranked(Rule):
    def __init__(self, stock, places):
        Rule.__init__(self, stock, places)
        self.present = 0
        self.last = {}

    def asked(self, name):
        self.number_ask(name)

    def number_ask(self, name):
        self.present += 1
        self.last[name] = self.present

    def last_of(self, name):
        return self.last.get(name, 0)

    def rank(self, name):
        return (self.last_of(name),)

    def choice(self, lying):
        return min(lying, key=self.rank)


class Oldest(Ranked):
    def nests(self):
        return True


class First(Ranked):
    def __init__(self, stock, places):
        Ranked.__init__(self, stock, places)
        self.put_at = {}

    def came(self, name):
        self.put_at[name] = self.present

    def rank(self, name):
        return (self.put_at.get(name, 0),)


class Halving(Ranked):
    def __init__(self, stock, places, turn=8):
        Ranked.__init__(self, stock, places)
        if not is_within(turn, 1, MOST_TURN):
            raise NoNumber(f"a turn is not a whole number from 1 to {MOST_TURN}")
        self.turn = turn
        self.tally = {}

    def nests(self):
        return True

    def halve(self):
        for name in list(self.tally):
            self.tally[name] = self.tally[name] // 2

    def asked(self, name):
        # Present is still the ask before; ahead of the very first there is nothing to halve.
        if self.present % self.turn == 0:
            self.halve()
        self.number_ask(name)
        self.tally[name] = self.tally.get(name, 0) + 1

    def counts(self):
        return dict(self.tally)

    def rank(self, name):
        return (self.tally.get(name, 0), self.last_of(name))


class Farthest(Ranked):
    def __init__(self, stock, places, asks):
        check_asks(stock, asks, places)
        Ranked.__init__(self, stock, places)
        self.asks = list(asks)

    def nests(self):
        return True

    def coming_of(self, name):
        # Asks are numbered from 1 on here, so the one behind the present stands at its number in the list.
        for before in range(self.present, len(self.asks)):
            if self.asks[before] == name:
                return before + 1
        return len(self.asks) + 1

    def rank(self, name):
        return (0 - self.coming_of(name), self.last_of(name))


def make_room(rule, shelf, room):
    went = []
    while shelf.room_left() < room:
        name = rule.choice(shelf.lying())
        shelf.cast(name)
        rule.gone(name)
        went.append(name)
    return went


def row_of(rule, shelf, name):
    rule.asked(name)
    if shelf.holds(name):
        return (name, True, [])
    went = make_room(rule, shelf, shelf.stock.room_of(name))
    shelf.put(name)
    rule.came(name)
    return (name, False, went)


def book_of(rule, asks):
    check_asks(rule.stock, asks, rule.places)
    shelf = Shelf(rule.stock, rule.places)
    return [row_of(rule, shelf, name) for name in asks]
