import unittest

from castoff.books import lying_after
from castoff.rules import book_of
from castoff.turns import Hand, Rows
from tests.helper import RuleTests, Watch, book_from, plain_run, stock_of, wide_stock


def told_by(rule):
    return (rule.line(), rule.marks()) if isinstance(rule, Hand) else rule.rows()


def told_behind_asks(make, asks):
    """What a new rule tells behind each beginning of the row, from the empty one on."""
    told = []
    for number in range(len(asks) + 1):
        rule = make()
        book_of(rule, asks[:number])
        told.append(told_by(rule))
    return told


class RingByHand:
    """The hand as a pointer into a ring that stands still; what comes is put just behind the pointer."""

    def __init__(self, stock, places):
        self.stock = stock
        self.ring = []
        self.at = 0
        self.marked = set()
        self.number = -1

    def pick(self, asks, number, shelf):
        self.see(asks, number)
        self.at %= len(self.ring)
        while self.ring[self.at] in self.marked:
            self.marked.discard(self.ring[self.at])
            self.at = (self.at + 1) % len(self.ring)
        return self.ring.pop(self.at)

    def see(self, asks, number):
        """Brings the ring up to the asks ahead of this one, each of which is there by now."""
        while self.number < number:
            if self.number >= 0:
                self.serve(asks[self.number])
            self.number += 1

    def serve(self, name):
        if name not in self.ring:
            self.ring.insert(self.at, name)
            self.at += 1
        self.marked.add(name)

    def told(self, asks):
        self.see(asks, len(asks))
        names = self.stock.names()
        return (self.ring[self.at:] + self.ring[:self.at], sum(2 ** names.index(name) for name in self.marked))


class RowsByHand:
    """The rule of two rows as one list of places for each thing, with a running number for the order."""

    def __init__(self, stock, places):
        self.places = places
        self.where = {}
        self.bound = 0
        self.number = -1
        self.clock = 0
        self.came_from_past = False

    def row(self, title):
        return sorted([name for name in self.where if self.where[name][0] == title], key=lambda n: self.where[n][1])

    def place(self, name, title):
        self.clock += 1
        self.where[name] = (title, self.clock)

    def pick(self, asks, number, shelf):
        self.see(asks, number)
        once, again = self.row("once"), self.row("again")
        title = "once" if once and (len(once) > self.bound or not again) else "again"
        name = self.row(title)[0]
        self.place(name, "past_" + title)
        if len(self.row("past_" + title)) == self.places + 1:
            self.where.pop(self.row("past_" + title)[0])
        return name

    def see(self, asks, number):
        """Brings the rows up to this ask: the one ahead is put on if it was a miss, and this one is told."""
        while self.number < number:
            self.settle(asks)
            self.number += 1
            if self.number < len(asks):
                self.hear(asks[self.number])

    def settle(self, asks):
        if self.number >= 0 and asks[self.number] not in self.row("once") + self.row("again"):
            self.place(asks[self.number], "again" if self.came_from_past else "once")

    def hear(self, name):
        title = self.where.get(name, ("", 0))[0]
        past_once, past_again = len(self.row("past_once")), len(self.row("past_again"))
        self.came_from_past = title.startswith("past")
        if title == "past_once":
            self.bound = sorted([self.bound + (past_again // past_once or 1), self.places])[0]
        if title == "past_again":
            self.bound = sorted([self.bound - (past_once // past_again or 1), 0])[1]
        if self.came_from_past:
            self.where.pop(name)
        elif title:
            self.place(name, "again")

    def told(self, asks):
        self.see(asks, len(asks))
        return (*[self.row(title) for title in ("once", "again", "past_once", "past_again")], self.bound)


class TestBothRules(RuleTests, unittest.TestCase):
    kinds = (Hand, Rows)
    tell = staticmethod(told_by)

    def each_book(self, stock, places, asks):
        for kind, plain in ((Hand, RingByHand), (Rows, RowsByHand)):
            given = list(asks)
            rule = kind(stock, places)
            book = book_of(rule, given)
            model = plain(stock, places)
            self.assertEqual(given, asks)
            self.assertEqual(book, plain_run(stock, places, asks, model.pick), (kind, places, asks))
            self.assertEqual(told_by(rule), model.told(asks), (kind, places, asks))
            self.assertEqual(len(lying_after(stock, asks, places, book)), len(asks))


class TestHand(unittest.TestCase):
    def test_by_hand(self):
        rule = Hand(stock_of("a b c d"), 3)
        self.assertEqual(book_of(rule, "a b c d b a".split()), book_from("a- b- c- d-a b+ a-c"))

    def test_line_and_marks_behind_each_ask(self):
        self.assertEqual(told_behind_asks(lambda: Hand(stock_of("a b c d"), 3), "a b c b d b a".split()), [
            ([], 0),
            (["a"], 1),
            (["a", "b"], 3),
            (["a", "b", "c"], 7),
            (["a", "b", "c"], 7),
            (["b", "c", "d"], 8),
            (["b", "c", "d"], 10),
            (["d", "b", "a"], 9),
        ])

    def test_round_once_whole(self):
        rule = Hand(stock_of("a b c d"), 3)
        for name in "abc":
            rule.asked(name)
            rule.came(name)
        rule.asked("d")
        self.assertEqual((rule.line(), rule.marks()), (["a", "b", "c"], 7))
        self.assertEqual(rule.choice(["a", "b", "c"]), "a")
        rule.gone("a")
        self.assertEqual((rule.line(), rule.marks()), (["b", "c"], 0))
        rule.came("d")
        self.assertEqual((rule.line(), rule.marks()), (["b", "c", "d"], 8))

    def test_the_asked_thing_is_marked_only_when_it_is_put_on(self):
        rule = Hand(stock_of("a b"), 1)
        rule.asked("a")
        self.assertEqual((rule.line(), rule.marks()), ([], 0))
        rule.came("a")
        self.assertEqual((rule.line(), rule.marks()), (["a"], 1))
        rule.asked("b")
        self.assertEqual((rule.line(), rule.marks()), (["a"], 1))

    def test_a_thing_that_went_is_not_marked_by_an_ask(self):
        rule = Hand(stock_of("a b c"), 2)
        book_of(rule, "a b c".split())
        self.assertEqual((rule.line(), rule.marks()), (["b", "c"], 4))
        rule.asked("a")
        self.assertEqual((rule.line(), rule.marks()), (["b", "c"], 4))

    def test_a_mark_saves_but_once(self):
        rule = Hand(stock_of("a b c d"), 2)
        # At d both b and c are marked; the hand takes both marks off, and b, at the front again, goes.
        self.assertEqual(book_of(rule, "a b c b d a".split()), book_from("a- b- c-a b+ d-b a-c"))

    def test_rooms_that_are_unlike(self):
        rule = Hand(stock_of("a b2 c3 d4"), 6)
        # At d all three lose their marks; a and b go, then c too, for 3 places are too few.
        self.assertEqual(book_of(rule, "a b c d a".split()), book_from("a- b- c- d-a,b,c a-"))
        self.assertEqual((rule.line(), rule.marks()), (["d", "a"], 9))
        rule = Hand(stock_of("a b2 c3 d4"), 7)
        # At d a and b go for it; the next miss finds c without and d with a mark.
        self.assertEqual(book_of(rule, "a b c d a".split()), book_from("a- b- c- d-a,b a-c"))
        self.assertEqual((rule.line(), rule.marks()), (["d", "a"], 9))

    def test_marks_go_by_the_numbers_in_the_stock(self):
        rule = Hand(stock_of("c b a"), 3)
        book_of(rule, ["a"])
        self.assertEqual(rule.marks(), 4)
        rule = Hand(wide_stock(60, lambda number: 1), 60)
        book_of(rule, ["t59"])
        self.assertEqual(rule.marks(), 2 ** 59)
        rule = Hand(wide_stock(60, lambda number: 1), 60)
        book_of(rule, [f"t{number}" for number in range(60)])
        self.assertEqual(rule.marks(), 2 ** 60 - 1)
        self.assertIs(type(rule.marks()), int)

    def test_the_line_is_the_askers_own(self):
        rule = Hand(stock_of("a b c"), 2)
        for name in "ab":
            rule.asked(name)
            rule.came(name)
        line = rule.line()
        line.reverse()
        line.append("c")
        self.assertEqual((rule.line(), rule.marks()), (["a", "b"], 3))
        rule.asked("c")
        self.assertEqual(rule.choice(["a", "b"]), "a")
        rule.gone("a")
        self.assertEqual(line, ["b", "a", "c"])


class TestRows(unittest.TestCase):
    ASKS = "a b c a c d a e b d f g h b d".split()

    def test_by_hand(self):
        book = book_of(Rows(stock_of("a b c d e f g h"), 2), self.ASKS)
        self.assertEqual(book, book_from("a- b- c-a a-b c+ d-a a-d e-c b-a d-b f-d g-e h-f b-g d-h"))

    def test_rows_behind_each_ask(self):
        def row(text):
            parts = text.split("/")
            return (*[list(part) for part in parts[:4]], int(parts[4]))

        told = told_behind_asks(lambda: Rows(stock_of("a b c d e f g h"), 2), self.ASKS)
        self.assertEqual(told, [row(text) for text in (
            "////0",
            "a////0",
            "ab////0",
            "bc//a//0",
            "c/a/b//1",
            "/ac/b//1",
            "d/c/b/a/1",
            "/ca/bd//0",
            "e/a/bd/c/0",
            "e/b/d/ca/1",
            "e/d//ab/2",
            "ef///bd/2",
            "fg//e/bd/2",
            "gh//ef/bd/2",
            "h/b/fg/d/1",
            "/bd/gh//0",
        )])

    def test_between_the_calls_of_one_ask(self):
        rule = Watch(Rows(stock_of("a b c"), 2), told_by)
        book_of(rule, "a b c a".split())
        self.assertEqual([row for row in rule.seen if row[0] != "choice"][-3:], [
            ("asked", "a", (["b", "c"], [], [], [], 1)),
            ("gone", "b", (["c"], [], ["b"], [], 1)),
            ("came", "a", (["c"], ["a"], ["b"], [], 1)),
        ])

    def test_a_hit_in_again_goes_to_its_end(self):
        rule = Rows(stock_of("a b c"), 3)
        book_of(rule, "a b c a b c a".split())
        self.assertEqual(rule.rows(), ([], ["b", "c", "a"], [], [], 0))

    def test_a_hit_changes_no_bound(self):
        rule = Rows(stock_of("a b c"), 2)
        book_of(rule, "a b c a c a c".split())
        self.assertEqual(rule.rows(), ([], ["a", "c"], ["b"], [], 1))

    def test_the_bound_grows_to_its_end(self):
        asks = list("abcdabcd") + list("abcdabcd")
        for places in (1, 2, 3):
            bounds = [row[4] for row in told_behind_asks(lambda: Rows(stock_of("a b c d e"), places), asks)]
            self.assertTrue(all(0 <= bound <= places for bound in bounds), bounds)
        # With one place the bound is at its end when a comes back from past_once, and falls when it comes back later.
        told = told_behind_asks(lambda: Rows(stock_of("a b c"), 1), list("abaca"))
        self.assertEqual(told, [
            ([], [], [], [], 0),
            (["a"], [], [], [], 0),
            (["b"], [], ["a"], [], 0),
            ([], ["a"], ["b"], [], 1),
            (["c"], [], ["b"], ["a"], 1),
            ([], ["a"], ["c"], [], 0),
        ])

    def test_the_bound_stays_at_its_ends(self):
        told = told_behind_asks(lambda: Rows(stock_of("a b c d"), 1), list("abab"))
        self.assertEqual(told[-2:], [([], ["a"], ["b"], [], 1), ([], ["b"], [], ["a"], 1)])
        told = told_behind_asks(lambda: Rows(stock_of("a b c d"), 1), list("aabababa"))
        self.assertEqual(told[2:6], [
            ([], ["a"], [], [], 0), (["b"], [], [], ["a"], 0), ([], ["a"], ["b"], [], 0), ([], ["b"], [], ["a"], 1),
        ])

    def test_a_past_row_loses_its_first(self):
        rule = Rows(stock_of("a b c d e"), 2)
        book_of(rule, list("abcde"))
        self.assertEqual(rule.rows(), (["d", "e"], [], ["b", "c"], [], 0))
        rule.asked("a")
        self.assertEqual(rule.rows(), (["d", "e"], [], ["b", "c"], [], 0))
        rule = Rows(stock_of("a b c d e f g"), 1)
        book_of(rule, list("aabbcc"))
        self.assertEqual(rule.rows(), ([], ["c"], [], ["b"], 0))

    def test_what_is_lost_comes_to_once_again(self):
        rule = Rows(stock_of("a b c d e"), 2)
        book_of(rule, list("abcdea"))
        self.assertEqual(rule.rows(), (["e", "a"], [], ["c", "d"], [], 0))

    def test_what_came_back_is_forgotten_at_the_next_ask(self):
        rule = Rows(stock_of("a b c d"), 2)
        book_of(rule, list("abcad"))
        self.assertEqual(rule.rows(), (["c", "d"], [], ["b"], ["a"], 1))

    def test_rooms_that_are_unlike(self):
        rule = Rows(stock_of("a b2 c3 d4"), 5)
        # At a the bound becomes 1, and once has two things; at d it has but one, so a of again goes ahead of c.
        self.assertEqual(book_of(rule, "a b c a d".split()), book_from("a- b- c-a a-b d-a,c"))
        self.assertEqual(rule.rows(), (["d"], [], ["b", "c"], ["a"], 1))

    def test_the_lists_told_are_the_askers_own(self):
        rule = Rows(stock_of("a b c d e"), 3)
        book_of(rule, list("abcbdaec"))
        before = rule.rows()
        self.assertIs(type(before), tuple)
        kept = (*[list(part) for part in before[:4]], before[4])
        for part in rule.rows()[:4]:
            part.append("z")
            part.reverse()
        self.assertEqual(rule.rows(), kept)
        rule.asked("b")
        self.assertEqual(before, kept)
        self.assertIs(type(before[4]), int)


if __name__ == "__main__":
    unittest.main()
