"""Towers: stories worked by hand, and a second telling in which each shelf gives its tail on by itself."""

import itertools
import random
import unittest

from castoff.books import missed_by, paid_by
from castoff.rules import Oldest, book_of
from castoff.stock import Stock
from castoff.tower import Prompt, Tower
from castoff.walks import depths_of
from tests.helper import NO_PLACES, assert_refused, stock_of, wide_stock

GREAT = 10 ** 30
KINDS = (Tower, Prompt)
# Whatever is no value that may be kept, of whatever kind it is.
NO_VALUES = (
    GREAT + 1, 0 - GREAT - 1, 10 ** 60, True, False, None, "3", "", 3.0, [3], [], (3,), (), {}, object(),
)
# Texts that are no name of any thing of the stocks here.
NO_NAMES = ("z", "", " ", "A", "a ", " a", "1a", "a b", "abcdefghi", "a\n", "\u00e4")


class TowerByHand:
    """The same told shelf by shelf: each thing lies there as a list of its name, its value and whether it is late."""

    def __init__(self, stock, sizes, prompt):
        self.stock = stock
        self.sizes = sizes
        self.prompt = prompt
        self.shelves = [[] for _ in sizes]
        self.store = dict.fromkeys(stock.names(), 0)
        self.diary = []
        self.found = [0 for _ in sizes] + [0]
        self.spent = 0

    def told(self):
        levels = [[thing[0] for thing in shelf] for shelf in self.shelves]
        return (levels, [self.store[name] for name in self.stock.names()], self.diary, self.found, self.spent)

    def take(self, name):
        for number, shelf in enumerate(self.shelves):
            for thing in shelf:
                if thing[0] == name:
                    shelf.remove(thing)
                    return number, thing
        return len(self.shelves), None

    def write(self, thing):
        self.store[thing[0]] = thing[1]
        self.diary.append(("write", thing[0], thing[1]))
        thing[2] = False

    def come(self, thing):
        for size, shelf in zip(self.sizes, self.shelves):
            shelf.insert(0, thing)
            if len(shelf) <= size:
                return
            thing = shelf.pop()
        if thing[2]:
            self.write(thing)

    def fetched(self, word, name):
        self.spent += self.stock.cost_of(name)
        self.diary.append((word, name))
        return [name, self.store[name], False]

    def read(self, name):
        number, thing = self.take(name)
        self.found[number] += 1
        thing = thing or self.fetched("fetch", name)
        self.come(thing)
        return thing[1]

    def keep(self, name, value):
        self.found[self.take(name)[0]] += 1
        thing = [name, value, True]
        if self.prompt:
            self.write(thing)
        self.come(thing)

    def rest(self):
        late = [thing for shelf in self.shelves for thing in shelf if thing[2]]
        for thing in late:
            self.write(thing)
        return len(late)

    def ahead(self, name):
        if any(thing[0] == name for shelf in self.shelves for thing in shelf):
            return False
        self.come(self.fetched("ahead", name))
        return True


def told(tower):
    stored = [tower.stored(name) for name in tower.stock.names()]
    return (tower.levels(), stored, tower.diary(), tower.found(), tower.spent())


def tower_behind(kind, stock, sizes, calls):
    """A tower behind calls as in: read a, keep b 3, ahead c, rest."""
    tower = kind(stock_of(stock), sizes)
    do_all(tower, calls)
    return tower


def do_all(tower, calls):
    answers = []
    for call in filter(None, calls.split(", ")):
        title, *given = call.split()
        if title == "keep":
            given[1] = int(given[1])
        answers.append(getattr(tower, title)(*given))
    return answers


def shown(levels):
    return " ".join("".join(names) + "/" for names in levels)


def drawn_call(dice, names):
    title = dice.choice(("read", "read", "keep", "keep", "ahead", "rest"))
    if title == "rest":
        return title, ()
    name = names[min(dice.randrange(len(names)), dice.randrange(len(names)))]
    if title == "keep":
        return title, (name, dice.choice((0, 1, -1, dice.randint(-99, 99), GREAT, 0 - GREAT)))
    return title, (name,)


class TestMaking(unittest.TestCase):
    def test_it_begins_empty(self):
        for kind in KINDS:
            for sizes in ([1], [3], [1, 1, 1, 1, 1, 1], [2, 10 ** 6, 1]):
                tower = kind(stock_of("a b c"), sizes)
                none = [0] * (len(sizes) + 1)
                self.assertEqual(told(tower), ([[] for _ in sizes], [0, 0, 0], [], none, 0))
                self.assertEqual(tower.rest(), 0)

    def test_a_prompt_tower_is_a_tower(self):
        self.assertEqual(Prompt.__bases__, (Tower,))

    def test_no_things(self):
        for kind in KINDS:
            tower = kind(Stock([]), [1, 2])
            self.assertEqual(told(tower), ([[], []], [], [], [0, 0, 0], 0))
            assert_refused(self, "Unknown", tower.read, "a")

    def test_no_sizes(self):
        for kind in KINDS:
            for stock in (stock_of("a b"), stock_of("a b2"), Stock([])):
                assert_refused(self, "NoNumber", kind, stock, [])
                assert_refused(self, "NoNumber", kind, stock, [1] * 7)
                assert_refused(self, "NoNumber", kind, stock, [10 ** 6 + 1] * 7)
                for size in NO_PLACES:
                    assert_refused(self, "NoNumber", kind, stock, [size])
                    assert_refused(self, "NoNumber", kind, stock, [size, 1])
                    assert_refused(self, "NoNumber", kind, stock, [1, 2, 3, 4, 5, size])

    def test_unlike_rooms(self):
        for kind in KINDS:
            for text in ("a2", "a b2 c", "a b c1000", "a2 b2"):
                for sizes in ([1], [2, 2], [10 ** 6] * 6):
                    assert_refused(self, "Unlike", kind, stock_of(text), sizes)

    def test_the_sizes_are_kept_as_a_copy(self):
        for kind in KINDS:
            sizes = [1, 1]
            tower = kind(stock_of("a b c d"), sizes)
            do_all(tower, "read a, read b")
            sizes.append(5)
            sizes[0] = 9
            do_all(tower, "read c, read d")
            self.assertEqual(tower.levels(), [["d"], ["c"]])
            self.assertEqual(tower.found(), [0, 0, 4])
            before = [2, 3]
            kind(stock_of("a"), before)
            self.assertEqual(before, [2, 3])


class TestMoving(unittest.TestCase):
    def hold(self, calls, levels, found, sizes=(2, 1, 2), stock="a b c d e f g"):
        for kind in KINDS:
            tower = tower_behind(kind, stock, list(sizes), calls)
            self.assertEqual(shown(tower.levels()), levels)
            self.assertEqual(tower.found(), found)

    def test_from_head_to_tail(self):
        self.hold("read a", "a/ / /", [0, 0, 0, 1])
        self.hold("read a, read b", "ba/ / /", [0, 0, 0, 2])
        self.hold("read a, read b, read c", "cb/ a/ /", [0, 0, 0, 3])
        self.hold("read a, read b, read c, read d", "dc/ b/ a/", [0, 0, 0, 4])
        self.hold("read a, read b, read c, read d, read e", "ed/ c/ ba/", [0, 0, 0, 5])
        self.hold("read a, read b, read c, read d, read e, read f", "fe/ d/ cb/", [0, 0, 0, 6])

    def test_where_the_thing_lies(self):
        full = "read a, read b, read c, read d, read e, "
        for title, value in (("read", ""), ("keep", " 3")):
            self.hold(full + f"{title} e{value}", "ed/ c/ ba/", [1, 0, 0, 5])
            self.hold(full + f"{title} d{value}", "de/ c/ ba/", [1, 0, 0, 5])
            self.hold(full + f"{title} c{value}", "ce/ d/ ba/", [0, 1, 0, 5])
            self.hold(full + f"{title} b{value}", "be/ d/ ca/", [0, 0, 1, 5])
            self.hold(full + f"{title} a{value}", "ae/ d/ cb/", [0, 0, 1, 5])
            self.hold(full + f"{title} f{value}", "fe/ d/ cb/", [0, 0, 0, 6])

    def test_within_a_shelf(self):
        full = "read a, read b, read c, read d, read e, read f, "
        for title, value in (("read", ""), ("keep", " 3")):
            self.hold(full + f"{title} e{value}", "efd/ cba/", [1, 0, 6], [3, 3])
            self.hold(full + f"{title} b{value}", "bfe/ dca/", [0, 1, 6], [3, 3])
            self.hold(full + f"{title} c{value}", "cfedba/", [1, 6], [6])

    def test_what_lies_there_is_not_moved_by_being_asked_ahead(self):
        full = "read a, read b, read c, read d, read e, "
        for name in "abcde":
            self.hold(full + f"ahead {name}", "ed/ c/ ba/", [0, 0, 0, 5])
        self.hold(full + "ahead f", "fe/ d/ cb/", [0, 0, 0, 5])

    def test_one_place(self):
        self.hold("read a, read a, read b, read a", "a/", [1, 3], [1])
        self.hold("keep a 1, keep a 2, keep b 3, keep a 4", "a/", [1, 3], [1])

    def test_six_shelves_with_one_place(self):
        calls = "read a, read b, keep c 1, read d, ahead e, read f"
        self.hold(calls, "f/ e/ d/ c/ b/ a/", [0, 0, 0, 0, 0, 0, 5], [1] * 6)
        self.hold(calls + ", read f", "f/ e/ d/ c/ b/ a/", [1, 0, 0, 0, 0, 0, 5], [1] * 6)
        self.hold(calls + ", read b", "b/ f/ e/ d/ c/ a/", [0, 0, 0, 0, 1, 0, 5], [1] * 6)
        self.hold(calls + ", keep a 1", "a/ f/ e/ d/ c/ b/", [0, 0, 0, 0, 0, 1, 5], [1] * 6)
        self.hold(calls + ", read g", "g/ f/ e/ d/ c/ b/", [0, 0, 0, 0, 0, 0, 6], [1] * 6)

    def test_a_million_places(self):
        stock = wide_stock(60, lambda number: 1)
        for kind in KINDS:
            tower = kind(stock, [10 ** 6] * 6)
            for name in stock.names():
                tower.read(name)
            self.assertEqual(tower.levels(), [stock.names()[::-1]] + [[]] * 5)
            self.assertEqual(tower.spent(), sum(range(60)))


class TestTower(unittest.TestCase):
    def test_a_story(self):
        tower = Tower(stock_of("a b c d"), [1, 2])
        self.assertEqual(tower.read("a"), 0)
        self.assertIsNone(tower.keep("b", 5))
        self.assertEqual(tower.stored("b"), 0)
        self.assertEqual(tower.read("b"), 5)
        self.assertIs(tower.ahead("b"), False)
        self.assertIs(tower.ahead("c"), True)
        self.assertEqual(tower.levels(), [["c"], ["b", "a"]])
        # A falls off and is not late, then b falls off late.
        self.assertEqual(tower.read("d"), 0)
        self.assertEqual(tower.levels(), [["d"], ["c", "b"]])
        tower.keep("a", -7)
        self.assertEqual(tower.levels(), [["a"], ["d", "c"]])
        rows = [("fetch", "a"), ("ahead", "c"), ("fetch", "d"), ("write", "b", 5)]
        self.assertEqual(told(tower), ([["a"], ["d", "c"]], [0, 5, 0, 0], rows, [1, 0, 4], 1 + 100 + 1000))
        self.assertEqual(tower.rest(), 1)
        rows.append(("write", "a", -7))
        self.assertEqual(told(tower), ([["a"], ["d", "c"]], [-7, 5, 0, 0], rows, [1, 0, 4], 1101))
        self.assertEqual(tower.rest(), 0)
        self.assertEqual(tower.diary(), rows)
        self.assertEqual(tower.read("b"), 5)
        self.assertEqual(tower.spent(), 1111)

    def test_what_is_given_on_keeps_its_value_and_whether_it_is_late(self):
        for many in range(6):
            reads = ", ".join(f"read {name}" for name in "bcdef"[:many])
            tower = tower_behind(Tower, "a b c d e f", [1] * 6, "keep a 9, " + reads)
            self.assertEqual(tower.levels()[many], ["a"])
            self.assertEqual(tower.stored("a"), 0)
            self.assertEqual(tower.read("a"), 9)
            self.assertEqual(tower.rest(), 1)
            self.assertEqual(tower.stored("a"), 9)
            tower = tower_behind(Tower, "a b c d e f", [1] * 6, "keep a 9, rest, " + reads)
            self.assertEqual(tower.levels()[many], ["a"])
            self.assertEqual(tower.read("a"), 9)
            self.assertEqual(tower.rest(), 0)

    def test_reading_leaves_late_what_was_late(self):
        tower = tower_behind(Tower, "a b c", [2], "keep a 4, read b, read a, read b, read c")
        self.assertEqual(tower.diary(), [("fetch", "b"), ("fetch", "c"), ("write", "a", 4)])
        self.assertEqual(tower.read("a"), 4)

    def test_what_falls_off_late_is_written_once(self):
        calls = "keep a 4, read b, read a, read b, read a, keep a 5, keep a 6, read c"
        tower = tower_behind(Tower, "a b c", [1], calls)
        writes = [row for row in tower.diary() if row[0] == "write"]
        self.assertEqual(writes, [("write", "a", 4), ("write", "a", 6)])

    def test_what_falls_off_not_late_is_not_written(self):
        tower = tower_behind(Tower, "a b c", [1], "keep a 4, rest, read b, ahead a, read b, read c")
        self.assertEqual([row for row in tower.diary() if row[0] == "write"], [("write", "a", 4)])
        self.assertEqual(tower.stored("a"), 4)

    def test_what_falls_off_is_written_behind_the_things_own_row(self):
        for call, row in (("read b", [("fetch", "b")]), ("ahead b", [("ahead", "b")]), ("keep b 2", [])):
            tower = tower_behind(Tower, "a b", [1], f"keep a 1, {call}")
            self.assertEqual(tower.diary(), row + [("write", "a", 1)])

    def test_a_kept_value_comes_in_the_place_of_an_earlier_one(self):
        tower = tower_behind(Tower, "a b", [1, 1], "keep a 1, read b, keep a 2, keep a 3, rest")
        self.assertEqual(tower.diary(), [("fetch", "b"), ("write", "a", 3)])
        self.assertEqual(tower.found(), [1, 1, 2])

    def test_keeping_fetches_and_pays_nothing(self):
        tower = tower_behind(Tower, "a b c", [1], "keep a 1, keep b 2, keep c 3, keep b 4")
        self.assertEqual(tower.spent(), 0)
        self.assertEqual(tower.diary(), [("write", "a", 1), ("write", "b", 2), ("write", "c", 3)])

    def test_the_order_of_a_rest(self):
        calls = "keep f 6, keep a 1, keep c 3, read d, keep b 2, keep e 5"
        tower = tower_behind(Tower, "a b c d e f", [2, 1, 3], calls)
        self.assertEqual(shown(tower.levels()), "eb/ d/ caf/")
        self.assertEqual(tower.rest(), 5)
        rows = [("write", "e", 5), ("write", "b", 2), ("write", "c", 3), ("write", "a", 1), ("write", "f", 6)]
        self.assertEqual(tower.diary(), [("fetch", "d")] + rows)
        self.assertEqual(shown(tower.levels()), "eb/ d/ caf/")
        self.assertEqual(tower.rest(), 0)
        self.assertEqual(tower.diary(), [("fetch", "d")] + rows)
        self.assertEqual(do_all(tower, "keep a 8, rest, rest"), [None, 1, 0])

    def test_a_thing_is_late_again(self):
        tower = tower_behind(Tower, "a b", [1], "keep a 1, rest, keep a 1, rest, keep a 1, read b")
        self.assertEqual(tower.diary(), [("write", "a", 1)] * 2 + [("fetch", "b"), ("write", "a", 1)])

    def test_a_thing_that_was_late_when_it_fell_off_is_not_late_when_it_is_fetched(self):
        tower = tower_behind(Tower, "a b", [1], "keep a 1, read b, read a")
        self.assertEqual(tower.rest(), 0)
        tower.read("b")
        self.assertEqual([row for row in tower.diary() if row[0] == "write"], [("write", "a", 1)])


class TestPrompt(unittest.TestCase):
    def test_a_story(self):
        tower = Prompt(stock_of("a b c d"), [1, 1])
        self.assertEqual(tower.read("a"), 0)
        tower.keep("b", 5)
        self.assertEqual(tower.stored("b"), 5)
        self.assertEqual(tower.rest(), 0)
        tower.keep("b", 6)
        tower.keep("b", 6)
        self.assertIs(tower.ahead("c"), True)
        self.assertIs(tower.ahead("b"), False)
        self.assertEqual(tower.read("b"), 6)
        tower.keep("d", -1)
        tower.keep("a", 3)
        self.assertEqual(tower.rest(), 0)
        rows = [
            ("fetch", "a"), ("write", "b", 5), ("write", "b", 6), ("write", "b", 6), ("ahead", "c"), ("write", "d", -1),
            ("write", "a", 3),
        ]
        self.assertEqual(told(tower), ([["a"], ["d"]], [3, 6, 0, -1], rows, [2, 1, 4], 101))

    def test_nothing_falls_off_late(self):
        tower = tower_behind(Prompt, "a b", [1], "keep a 1, read b, read a, keep b 2, rest, read a, rest")
        rows = [("write", "a", 1), ("fetch", "b"), ("fetch", "a"), ("write", "b", 2), ("fetch", "a")]
        self.assertEqual(tower.diary(), rows)


class TestRefusals(unittest.TestCase):
    def setUp(self):
        calls = "keep a 1, read b, keep c 2, ahead d"
        self.towers = [tower_behind(kind, "a b c d e f", [1, 2], calls) for kind in KINDS]

    def refused(self, title, call, *given):
        for tower in self.towers:
            before = told(tower)
            refusal = assert_refused(self, title, getattr(tower, call), *given)
            self.assertEqual(told(tower), before)
            yield refusal

    def test_unknown(self):
        for name in NO_NAMES:
            for call in ("read", "ahead", "stored"):
                for refusal in self.refused("Unknown", call, name):
                    self.assertEqual((refusal.name, refusal.place), (name, -1))

    def test_unknown_ahead_of_no_value(self):
        for name in NO_NAMES:
            for value in (0, GREAT) + NO_VALUES:
                for refusal in self.refused("Unknown", "keep", name, value):
                    self.assertEqual((refusal.name, refusal.place), (name, -1))

    def test_no_value(self):
        for value in NO_VALUES:
            for name in "abcdef":
                self.assertEqual(len(list(self.refused("NoNumber", "keep", name, value))), 2)

    def test_a_refused_value_makes_nothing_late(self):
        tower = tower_behind(Tower, "a b", [1], "read a")
        assert_refused(self, "NoNumber", tower.keep, "a", GREAT + 1)
        self.assertEqual(do_all(tower, "rest, read a"), [0, 0])

    def test_values_at_the_bounds(self):
        for kind in KINDS:
            for value in (GREAT, 0 - GREAT, 0, 1, -1, GREAT - 1):
                tower = kind(stock_of("a b"), [1])
                tower.keep("a", value)
                self.assertEqual(tower.read("a"), value)
                tower.read("b")
                self.assertEqual(tower.stored("a"), value)
                rows = [("fetch", "b"), ("write", "a", value)]
                self.assertEqual(tower.diary(), rows if kind is Tower else rows[::-1])
                self.assertEqual(tower.read("a"), value)

    def test_great_costs(self):
        for kind in KINDS:
            tower = kind(Stock([("a", GREAT, 1), ("b", 0, 1)]), [1])
            do_all(tower, "read a, read b, ahead a, read b, keep a 1, read b, read a")
            self.assertEqual(tower.spent(), 3 * GREAT)


class TestDrawnCalls(unittest.TestCase):
    def hold(self, kind, stock, sizes, dice, many):
        tower = kind(stock, list(sizes))
        hand = TowerByHand(stock, sizes, kind is Prompt)
        kept = dict.fromkeys(stock.names(), 0)
        for _ in range(many):
            title, given = drawn_call(dice, stock.names())
            self.assertEqual(getattr(tower, title)(*given), getattr(hand, title)(*given))
            self.assertEqual(told(tower), hand.told())
            if title == "keep":
                kept[given[0]] = given[1]
            if title == "rest" or kind is Prompt:
                self.assertEqual([tower.stored(name) for name in kept], list(kept.values()))

    def test_against_shelves_that_give_on(self):
        dice = random.Random(561)
        for number in range(240):
            stock = wide_stock(dice.randint(1, 12), lambda number: 1)
            sizes = [dice.choice((1, 1, 2, 3, 5)) for _ in range(1 + number % 6)]
            self.hold(KINDS[number // 6 % 2], stock, sizes, dice, 80)

    def test_a_great_stock(self):
        dice = random.Random(562)
        stock = wide_stock(60, lambda number: 1)
        for sizes in ([1], [7], [1] * 6, [3, 1, 9], [20, 20, 20], [10 ** 6, 1]):
            for kind in KINDS:
                self.hold(kind, stock, sizes, dice, 300)

    def test_all_short_rows_of_calls(self):
        stock = stock_of("a b c")
        calls = ("read a", "read b", "keep a 1", "keep b 2", "ahead c", "rest")
        for kind in KINDS:
            for sizes in ([1], [1, 1], [2]):
                for row in itertools.product(calls, repeat=4):
                    tower = kind(stock, sizes)
                    hand = TowerByHand(stock, sizes, kind is Prompt)
                    self.assertEqual(do_all(tower, ", ".join(row)), do_all(hand, ", ".join(row)))
                    self.assertEqual(told(tower), hand.told())

    def test_shelves_behind_one_another_are_as_one_shelf(self):
        dice = random.Random(563)
        for number in range(120):
            stock = wide_stock(dice.randint(1, 15), lambda number: 1)
            asks = [dice.choice(stock.names()) for _ in range(dice.randint(0, 60))]
            sizes = [dice.randint(1, 3) for _ in range(1 + number % 6)]
            tower = KINDS[number % 2](stock, sizes)
            found = [0] * (len(sizes) + 1)
            for name, depth in zip(asks, depths_of(stock, asks)):
                tower.read(name)
                reach = list(itertools.accumulate(sizes))
                found[sum(depth is None or depth > end for end in reach)] += 1
                self.assertEqual(tower.found(), found)
            book = book_of(Oldest(stock, sum(sizes)), asks)
            self.assertEqual((tower.found()[-1], tower.spent()), (missed_by(book), paid_by(stock, book)))
            fetched = [("fetch", name) for name, there, gone in book if not there]
            self.assertEqual(tower.diary(), fetched)


class TestTheAskersOwn(unittest.TestCase):
    def test_lists_that_are_given_back(self):
        for kind in KINDS:
            tower = tower_behind(kind, "a b c d e f", [1, 2], "keep a 1, read b, keep c 2, read d")
            before = told(tower)
            for answer in (tower.levels(), tower.diary(), tower.found()):
                answer.append("z")
                answer[0] = "y"
                answer.reverse()
            for names in tower.levels():
                names.append("z")
                names.reverse()
            self.assertEqual(told(tower), before)
            later = tower_behind(kind, "a b c d e f", [1, 2], "keep a 1, read b, keep c 2, read d, read e, rest")
            do_all(tower, "read e, rest")
            self.assertEqual(told(tower), told(later))

    def test_what_was_told_does_not_grow(self):
        for kind in KINDS:
            tower = tower_behind(kind, "a b c d e f", [1, 2], "keep a 1, read b")
            levels, stored, diary, found, spent = told(tower)
            kept = ([list(names) for names in levels], list(diary), list(found))
            do_all(tower, "read c, keep d 4, rest, ahead e")
            self.assertEqual((levels, diary, found), kept)

    def test_telling_changes_nothing(self):
        dice = random.Random(564)
        stock = stock_of("a b c d e")
        for kind in KINDS:
            one, other = kind(stock, [1, 2]), kind(stock, [1, 2])
            for _ in range(60):
                title, given = drawn_call(dice, stock.names())
                self.assertEqual(told(one), told(one))
                self.assertEqual(getattr(one, title)(*given), getattr(other, title)(*given))
            self.assertEqual(told(one), told(other))

    def test_two_towers_of_one_stock(self):
        stock = stock_of("a b c")
        for kind, second in itertools.product(KINDS, KINDS):
            one, other = kind(stock, [2]), second(stock, [2])
            do_all(one, "keep a 7, read b, rest, ahead c")
            self.assertEqual(told(other), ([[]], [0, 0, 0], [], [0, 0], 0))
            do_all(other, "read a")
            self.assertEqual((one.stored("a"), other.stored("a"), other.read("a")), (7, 0, 0))
            self.assertEqual(stock.names(), ["a", "b", "c"])


if __name__ == "__main__":
    unittest.main()
