"""Parts of a row with so many different things each, and the misses that nobody is spared by them."""

from castoff.books import missed_by
from castoff.errors import NoNumber
from castoff.ratios import is_within
from castoff.shelf import MOST_PLACES, check_places


def parts_of(asks, most):
    if not is_within(most, 1, MOST_PLACES):
        raise NoNumber(f"the things of a part are not a whole number from 1 to {MOST_PLACES}")
    parts = []
    start = 0
    seen = {}
    for number, name in enumerate(asks):
        if name not in seen and len(seen) == most:
            parts.append((start, number))
            start = number
            seen = {}
        seen[name] = True
    if start < len(asks):
        parts.append((start, len(asks)))
    return parts


def missed_in(book, parts):
    return [missed_by(book[start:end]) for start, end in parts]


def floor_by_parts(asks, places, fewer):
    check_places(places)
    check_places(fewer)
    if fewer > places:
        raise NoNumber("the fewer places are more than the places")
    parts = parts_of(asks, places)
    if parts == []:
        return 0
    return 1 + (len(parts) - 1) * (places - fewer + 1)
