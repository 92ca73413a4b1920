"""Numbers, rows of asks and stocks as texts."""

from castoff.errors import NoLine, NoName, NoNumber, TooMany
from castoff.stock import FIGURES, Stock, is_name, made_of

MOST_FIGURES = 31
MOST_ASKS = 200


def read_number(text):
    if len(text) < 1 or len(text) > MOST_FIGURES or not made_of(text, FIGURES):
        raise NoNumber(f"a number has one to {MOST_FIGURES} figures and nothing else")
    if text[0] == "0" and text != "0":
        raise NoNumber("a number has no nought ahead")
    return int(text)


def read_asks(text):
    # Cutting the empty text would give one piece without signs.
    if text == "":
        return []
    pieces = text.split(" ")
    if len(pieces) > MOST_ASKS:
        raise TooMany(f"a row has at most {MOST_ASKS} asks")
    for piece in pieces:
        if not is_name(piece):
            raise NoName(f"{piece!r} is no name")
    return pieces


def show_asks(asks):
    return " ".join(asks)


def read_thing(piece):
    parts = piece.split(" ")
    if len(parts) != 3:
        raise NoLine(f"{piece!r} is not a name, a cost and a room")
    # The name is left to the stock, which looks at it when all numbers are read.
    cost = read_number(parts[1])
    room = read_number(parts[2])
    return (parts[0], cost, room)


def read_stock(text):
    # Cutting the empty text would give one piece without signs.
    if text == "":
        return Stock([])
    return Stock([read_thing(piece) for piece in text.split("; ")])


def show_thing(stock, name):
    cost = stock.cost_of(name)
    room = stock.room_of(name)
    return f"{name} {cost} {room}"


def show_stock(stock):
    return "; ".join([show_thing(stock, name) for name in stock.names()])
