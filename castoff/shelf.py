"""The shelf: few places, and what lies on them."""

from castoff.errors import Full, NoNumber, NotThere, There
from castoff.ratios import is_within

MOST_PLACES = 1000000


def check_places(places):
    if not is_within(places, 1, MOST_PLACES):
        raise NoNumber(f"the places of a shelf are not a whole number from 1 to {MOST_PLACES}")


class Shelf:
    def __init__(self, stock, places):
        check_places(places)
        self.stock = stock
        self.places = places
        # A dict keeps the order of coming, and what comes again comes last.
        self.rooms = {}

    def lying(self):
        return list(self.rooms)

    def holds(self, name):
        return name in self.rooms

    def room_left(self):
        return self.places - sum(self.rooms.values())

    def put(self, name):
        # The stock is asked first: it refuses what it does not know.
        room = self.stock.room_of(name)
        if self.holds(name):
            raise There(f"{name} lies on the shelf already")
        if room > self.room_left():
            raise Full(f"there is no room left for {name}")
        self.rooms[name] = room

    def cast(self, name):
        if not self.holds(name):
            raise NotThere(f"{name!r} does not lie on the shelf")
        self.rooms.pop(name)
