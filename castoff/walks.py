"""One walk over a row of asks that tells of shelves of all sizes."""

from castoff.books import check_asks, check_rooms, earlier_asks
from castoff.errors import NoNumber, NoRule
from castoff.shelf import MOST_PLACES
from castoff.sums import Sums


def depths_of(stock, asks):
    # Nothing is wider than the greatest shelf, so that only the number of asks and the names are refused.
    check_asks(stock, asks, MOST_PLACES)
    # Each thing's room stands at its last ask so far alone, so that no thing is counted twice.
    rooms = Sums(len(asks))
    depths = []
    for number, earlier in enumerate(earlier_asks(asks)):
        room = stock.room_of(asks[number])
        if earlier is None:
            depths.append(None)
        else:
            depths.append(rooms.upto(number) - rooms.upto(earlier))
            rooms.add(earlier, 0 - room)
        rooms.add(number, room)
    return depths


def is_there(depth, places):
    return depth is not None and depth <= places


def step_with(stock, asks, depths, places):
    costs = [stock.cost_of(name) for name, depth in zip(asks, depths) if not is_there(depth, places)]
    return (places, len(costs), sum(costs))


def steps_of(stock, asks):
    depths = depths_of(stock, asks)
    if depths == []:
        return []
    widest = max([stock.room_of(name) for name in asks])
    deeper = [depth for depth in depths if depth is not None and depth > widest]
    return [step_with(stock, asks, depths, places) for places in sorted(set([widest] + deeper))]


def step_at(steps, places):
    within = [step for step in steps if step[0] <= places]
    if within == []:
        raise NoNumber("no step has so few places")
    return within[-1][1:]


def check_walk(rule, asks):
    check_asks(rule.stock, asks, rule.places)
    if not rule.nests():
        raise NoRule("the rule is not told to hold whatever a lesser shelf holds")
    check_rooms(rule.stock, asks)


def depth_in(row, name):
    if name not in row:
        return None
    return row.index(name) + 1


def carried_along(rule, row):
    # Of each two the one that goes first is carried on: only a shelf with more places still holds it.
    carried = row[0]
    kept = []
    for name in row[1:]:
        if rule.rank(carried) > rule.rank(name):
            kept.append(carried)
            carried = name
        else:
            kept.append(name)
    return kept + [carried]


def row_behind(rule, row, name):
    if row == [] or row[0] == name:
        return [name] + row[1:]
    place = row.index(name) if name in row else len(row)
    return [name] + carried_along(rule, row[:place]) + row[place + 1:]


def stack_depths(rule, asks):
    check_walk(rule, asks)
    row = []
    depths = []
    for name in asks:
        rule.asked(name)
        depths.append(depth_in(row, name))
        row = row_behind(rule, row, name)
    return depths
