"""The lines that a desk is told: their forms, and the words of a line read by its form."""

from castoff.errors import NoLine, NoName
from castoff.nests import maker_of
from castoff.stock import is_name
from castoff.words import read_number

# Behind each first word what follows it: NAME, RULE, or any other word for a number; the two points stand for more.
FORMS = {
    "thing": ("NAME", "COST", "ROOM"),
    "ask": ("NAME", ".."),
    "again": (),
    "run": ("RULE", "PLACES"),
    "book": ("RULE", "PLACES"),
    "holds": ("RULE", "LESSER", "GREATER"),
    "even": ("RULE", "PLACES", "FEWER"),
    "best": ("PLACES",),
    "ways": ("PLACES",),
    "sizes": (),
    "parts": ("PLACES",),
    "tower": ("SIZE", ".."),
    "prompt": ("SIZE", ".."),
    "read": ("NAME",),
    "keep": ("NAME", "VALUE"),
    "ahead": ("NAME",),
    "rest": (),
    "store": ("NAME",),
    "levels": (),
    "found": (),
    "spent": (),
}


def read_name(word):
    if not is_name(word):
        raise NoName(f"{word!r} is no name")
    return word


def read_word(kind, word):
    if kind == "NAME":
        return read_name(word)
    if kind == "RULE":
        return maker_of(word)
    return read_number(word)


def kinds_of(form, many):
    if ".." in form:
        # What may stand more than once stands at least once.
        return [form[0]] * max(1, many)
    return list(form)


def read_line(line):
    words = line.split(" ")
    first = words[0]
    if first not in FORMS:
        raise NoLine(f"no line begins with {first!r}")
    kinds = kinds_of(FORMS[first], len(words) - 1)
    if len(kinds) != len(words) - 1:
        raise NoLine(f"a line that begins with {first} has another number of words")
    return (first, [read_word(kind, word) for kind, word in zip(kinds, words[1:])])
