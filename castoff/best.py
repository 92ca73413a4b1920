"""The best run of a row whose things all have room 1, and prices by which no lawful book pays less."""

from castoff.books import check_asks, check_rooms, earlier_asks, paid_by
from castoff.errors import TooMany
from castoff.flows import flow_of
from castoff.rules import Ranked, book_of

MOST_BEST = 40


class Planned(Ranked):
    def __init__(self, stock, places, stays):
        Ranked.__init__(self, stock, places)
        self.stays = stays

    def rank(self, name):
        # What is to stay up to its next ask goes last; there is always something else to go.
        return (1 if self.last_of(name) in self.stays else 0,)


def gaps_of(asks):
    return [(earlier, later) for later, earlier in enumerate(earlier_asks(asks)) if earlier is not None]


def stays_of(gaps, taken):
    stays = {}
    for gap, used in zip(gaps, taken):
        if used:
            # A rule numbers the asks from 1 on.
            stays[gap[0] + 1] = True
    return stays


def rises_of(heights):
    return [(high - low, 1) for low, high in zip(heights, heights[1:])]


def best_of(stock, asks, places):
    check_asks(stock, asks, places)
    check_rooms(stock, asks)
    if len(asks) > MOST_BEST:
        raise TooMany(f"the best run is told of at most {MOST_BEST} asks")
    gaps = gaps_of(asks)
    # A thing whose gap is hit takes up a place at each ask strictly between; one place is the asked thing's own.
    jumps = [(earlier + 1, later, stock.cost_of(asks[later])) for earlier, later in gaps]
    flow = flow_of(len(asks) + 1, jumps, places - 1)
    book = book_of(Planned(stock, places, stays_of(gaps, flow[0])), asks)
    return (paid_by(stock, book), book, rises_of(flow[1]))
