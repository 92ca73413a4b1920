"""All ways through a row of asks: what each set of things that may lie on the shelf has cost at the least.

A set is told by one whole number, the sum of the worths of its things. The ways behind an ask are a list with an
entry for each set: None, or a tuple of what is paid at the least and the set that lay there ahead of the ask.
"""

from castoff.books import check_asks
from castoff.errors import TooMany

MOST_ASKED = 30
MOST_DIFFERENT = 6


def worths_of(asks):
    worths = {}
    worth = 1
    for name in asks:
        if name not in worths:
            worths[name] = worth
            worth *= 2
    return worths


def rooms_of_sets(stock, worths):
    rooms = [0]
    for name in worths:
        room = stock.room_of(name)
        # The sets with this thing come behind all those without it, in the same order.
        rooms = rooms + [without + room for without in rooms]
    return rooms


def is_in(worth, held):
    return held & worth != 0


def has_all(held, some):
    return held & some == some


def known_ways(ways):
    return [(way[0], held) for held, way in enumerate(ways) if way is not None]


def served_ways(ways, worth, cost):
    return [(paid if is_in(worth, held) else paid + cost, held) for paid, held in known_ways(ways)]


def ways_behind(ways, rooms, places, worth, cost):
    served = served_ways(ways, worth, cost)
    behind = []
    for held, room in enumerate(rooms):
        if is_in(worth, held) and room <= places:
            # All but the asked thing must have lain there ahead of the ask.
            behind.append(min([way for way in served if has_all(way[1], held - worth)], default=None))
        else:
            behind.append(None)
    return behind


def all_ways(stock, asks, places, worths):
    rooms = rooms_of_sets(stock, worths)
    # Ahead of the first ask there is the empty set alone, with nothing paid.
    told = [[(0, 0)]]
    for name in asks:
        told.append(ways_behind(told[-1], rooms, places, worths[name], stock.cost_of(name)))
    return told


def row_between(worths, name, ahead, behind):
    gone = [other for other, worth in worths.items() if is_in(worth, ahead) and not is_in(worth, behind)]
    return (name, is_in(worths[name], ahead), gone)


def book_along(asks, worths, told, held):
    # Only its end tells which way is the best, so it is followed back from there.
    rows = []
    for number in range(len(asks), 0, -1):
        ahead = told[number][held][1]
        rows.append(row_between(worths, asks[number - 1], ahead, held))
        held = ahead
    return list(reversed(rows))


def payments_of(ways):
    return [None if way is None else way[0] for way in ways]


def ways_of(stock, asks, places):
    check_asks(stock, asks, places)
    worths = worths_of(asks)
    if len(asks) > MOST_ASKED or len(worths) > MOST_DIFFERENT:
        raise TooMany(f"all ways are told of at most {MOST_ASKED} asks of at most {MOST_DIFFERENT} different things")
    told = all_ways(stock, asks, places, worths)
    least = min(known_ways(told[-1]))
    book = book_along(asks, worths, told, least[1])
    return (least[0], book, [payments_of(ways) for ways in told[1:]])
