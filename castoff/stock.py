"""Names, and the stock: the things that may be asked for."""

from castoff.errors import NoName, NoNumber, TooMany, Twice, Unknown
from castoff.ratios import is_within

LETTERS = "abcdefghijklmnopqrstuvwxyz"
FIGURES = "0123456789"
MOST_SIGNS = 8
MOST_THINGS = 60
MOST_ROOM = 1000


def made_of(text, signs):
    # Python's own tests for letters and figures take other scripts too.
    return all([sign in signs for sign in text])


def is_name(thing):
    if not isinstance(thing, str):
        return False
    if len(thing) < 1 or len(thing) > MOST_SIGNS:
        return False
    return thing[0] in LETTERS and made_of(thing, LETTERS + FIGURES)


def check_thing(name, cost, room, earlier):
    # The name comes first: only a name is sure to be fit for looking up.
    if not is_name(name):
        raise NoName("a name has one to eight small letters and figures, a letter first")
    if name in earlier:
        raise Twice(f"{name} stands twice")
    if not is_within(cost, 0, 10 ** 30):
        raise NoNumber(f"the cost of {name} is not a whole number from 0 to 10 ** 30")
    if not is_within(room, 1, MOST_ROOM):
        raise NoNumber(f"the room of {name} is not a whole number from 1 to {MOST_ROOM}")


class Stock:
    def __init__(self, rows):
        if len(rows) > MOST_THINGS:
            raise TooMany(f"a stock has at most {MOST_THINGS} things")
        self.things = {}
        for name, cost, room in rows:
            check_thing(name, cost, room, self.things)
            self.things[name] = (len(self.things), cost, room)

    def names(self):
        return list(self.things)

    def has(self, name):
        return name in self.things

    def thing_of(self, name):
        if name not in self.things:
            raise Unknown(name, -1)
        return self.things[name]

    def number_of(self, name):
        return self.thing_of(name)[0]

    def cost_of(self, name):
        return self.thing_of(name)[1]

    def room_of(self, name):
        return self.thing_of(name)[2]
