import unittest

from castoff.books import missed_by, paid_by
from castoff.rules import Farthest, First, Halving, Oldest, Ranked, Rule, book_of
from castoff.stock import Stock
from castoff.turns import Hand, Rows
from castoff.walks import depths_of, stack_depths, step_at, steps_of
from tests.helper import Watch, assert_refused, long_cases, long_rows, short_rows, stock_of, wide_stock, words


def plain_depths(stock, asks):
    """Depths as the document words them: the rooms of all different things from the last ask on."""
    told = []
    for number, name in enumerate(asks):
        if name in asks[:number]:
            last = max(n for n in range(number) if asks[n] == name)
            told.append(sum(map(stock.room_of, set(asks[last:number]))))
        else:
            told.append(None)
    return told


def rows_with_stocks():
    """Short and long rows, each with a stock, of room 1 and of unlike rooms."""
    for text in ("d c b a", "a3 b c2 d", "a b2 c4 d1000"):
        for asks in short_rows("abcd", 5):
            yield stock_of(text), asks
    for many, widest in ((60, 1), (60, 7), (9, 1), (9, 3), (3, 1000)):
        stock = wide_stock(many, lambda number: 1 + number % widest)
        for asks in long_rows(stock.names(), 12):
            yield stock, asks


class TestDepths(unittest.TestCase):
    def told(self, text, asks):
        return depths_of(stock_of(text), words(asks))

    def test_the_documents_own_row(self):
        self.assertEqual(self.told("a b2 c4", "a b b c a"), [None, None, 2, None, 7])

    def test_no_asks(self):
        self.assertEqual(depths_of(stock_of("a b"), []), [])
        self.assertEqual(depths_of(Stock([]), []), [])

    def test_one_thing_again_and_again(self):
        self.assertEqual(self.told("a", "a"), [None])
        self.assertEqual(self.told("a", "a a a a"), [None, 1, 1, 1])
        self.assertEqual(self.told("a1000", "a a a"), [None, 1000, 1000])
        self.assertEqual(depths_of(stock_of("a b7"), ["b"] * 200), [None] + [7] * 199)

    def test_each_thing_between_is_counted_once(self):
        self.assertEqual(self.told("a b2 c4", "a b c b c b a"), [None, None, None, 6, 6, 6, 7])
        self.assertEqual(self.told("a b2 c4", "a b b b a a b"), [None, None, 2, 2, 3, 1, 3])

    def test_what_was_asked_ahead_of_the_last_ask_is_not_counted(self):
        self.assertEqual(self.told("a b2 c4", "c a b a"), [None, None, None, 3])
        self.assertEqual(self.told("a b2 c4", "a c a b a c"), [None, None, 5, None, 3, 7])

    def test_rooms_up_to_a_thousand(self):
        self.assertEqual(self.told("a b10 c100 d1000", "a b c d d c b a"), [None] * 4 + [1000, 1100, 1110, 1111])
        stock = wide_stock(60, lambda number: 1000)
        names = stock.names()
        self.assertEqual(depths_of(stock, names * 3), [None] * 60 + [60000] * 120)

    def test_two_hundred_asks(self):
        stock = wide_stock(50, lambda number: number + 1)
        self.assertEqual(depths_of(stock, stock.names() * 4), [None] * 50 + [1275] * 150)

    def test_against_the_words_of_the_document(self):
        for stock, asks in rows_with_stocks():
            self.assertEqual(depths_of(stock, asks), plain_depths(stock, asks))

    def test_oldest_has_the_thing_just_where_the_depth_is_no_more_than_the_places(self):
        for stock, places, asks in long_cases():
            there = [depth is not None and depth <= places for depth in depths_of(stock, asks)]
            self.assertEqual([row[1] for row in book_of(Oldest(stock, places), asks)], there)


class TestRefusedDepths(unittest.TestCase):
    def test_two_hundred_and_one_asks(self):
        stock = stock_of("a b1000")
        for tell in (depths_of, steps_of):
            for many in (201, 202, 1000):
                for asks in (["a"] * many, ["b"] * many, ["z"] * many, ["a"] * (many - 1) + ["z"]):
                    assert_refused(self, "TooMany", tell, stock, asks)
            self.assertEqual(len(depths_of(stock, ["b"] * 200)), 200)

    def test_unknown_tells_the_name_and_its_number(self):
        stock = stock_of("a b1000")
        for tell in (depths_of, steps_of):
            for asks, told in (
                (["z"], ("z", 0)),
                (["a", "b", "y", "a", "z"], ("y", 2)),
                (["a"] * 199 + ["z"], ("z", 199)),
                (["b", ""], ("", 1)),
                (["b", "A", "a"], ("A", 1)),
            ):
                refusal = assert_refused(self, "Unknown", tell, stock, asks)
                self.assertEqual((refusal.name, refusal.place), told)
            assert_refused(self, "Unknown", tell, Stock([]), ["a"])


class TestSteps(unittest.TestCase):
    def told(self, text, asks):
        return steps_of(stock_of(text), words(asks))

    def test_no_asks(self):
        self.assertEqual(self.told("a b", ""), [])
        self.assertEqual(steps_of(Stock([]), []), [])

    def test_one_ask(self):
        self.assertEqual(self.told("a b", "b"), [(1, 1, 10)])
        self.assertEqual(self.told("a b1000", "b"), [(1000, 1, 10)])

    def test_things_of_one_room(self):
        # Depths of None, None, 2, None, 3, 3, 1.
        self.assertEqual(self.told("a b c", "a b a c b a a"), [(1, 6, 123), (2, 5, 122), (3, 3, 111)])
        self.assertEqual(self.told("a3 b3", "a b a b b"), [(3, 4, 22), (6, 2, 11)])

    def test_things_of_unlike_rooms(self):
        self.assertEqual(self.told("a b2 c4", "a b b c a"), [(4, 4, 112), (7, 3, 111)])
        # Depths of None, None, 3, None, 3, 7.
        self.assertEqual(self.told("a b2 c4", "a b a c c b"), [(4, 4, 121), (7, 3, 111)])

    def test_depths_up_to_the_widest_room_have_no_step(self):
        self.assertEqual(self.told("a b9", "a a a b"), [(9, 2, 11)])
        self.assertEqual(self.told("a b9", "b b a a"), [(9, 2, 11)])

    def test_a_thing_that_is_not_asked_plays_no_part(self):
        self.assertEqual(self.told("a b c900", "a b a"), [(1, 3, 12), (2, 2, 11)])

    def test_one_depth_met_often_has_one_step(self):
        self.assertEqual(self.told("a b", "a b a b a b"), [(1, 6, 33), (2, 2, 11)])

    def test_costs_of_nought_and_great_ones(self):
        stock = Stock([("a", 0, 1), ("b", 10 ** 30, 1)])
        self.assertEqual(steps_of(stock, words("a b a b")), [(1, 4, 2 * 10 ** 30), (2, 2, 10 ** 30)])
        self.assertEqual(steps_of(stock, words("a a")), [(1, 1, 0)])

    def test_against_the_run_of_oldest_with_each_number_of_places(self):
        for stock, asks in rows_with_stocks():
            steps = steps_of(stock, asks)
            if asks:
                self.check_row(stock, asks, steps)
            else:
                self.assertEqual(steps, [])

    def check_row(self, stock, asks, steps):
        widest = max(map(stock.room_of, asks))
        depths = [depth for depth in plain_depths(stock, asks) if depth is not None and depth > widest]
        self.assertEqual([step[0] for step in steps], sorted({widest, *depths}))
        for places in range(widest, steps[-1][0] + 2):
            book = book_of(Oldest(stock, places), asks)
            self.assertEqual(step_at(steps, places), (missed_by(book), paid_by(stock, book)))


class TestStepAt(unittest.TestCase):
    STEPS = [(4, 9, 900), (7, 5, 50), (8, 5, 20), (20, 2, 0)]

    def test_the_places_of_each_step_and_those_between(self):
        for places, told in ((4, (9, 900)), (5, (9, 900)), (6, (9, 900)), (7, (5, 50)), (8, (5, 20)), (9, (5, 20)),
                             (19, (5, 20)), (20, (2, 0)), (21, (2, 0)), (10 ** 6 + 1, (2, 0)), (10 ** 40, (2, 0))):
            self.assertEqual(step_at(self.STEPS, places), told)
            self.assertIs(type(step_at(self.STEPS, places)), tuple)

    def test_fewer_places_than_the_first_step(self):
        for places in (3, 2, 1, 0, -1, -4, -10 ** 40):
            assert_refused(self, "NoNumber", step_at, self.STEPS, places)
        assert_refused(self, "NoNumber", step_at, [(1, 1, 1)], 0)

    def test_no_steps(self):
        for places in (-1, 0, 1, 2, 10 ** 6, 10 ** 40):
            assert_refused(self, "NoNumber", step_at, [], places)

    def test_the_steps_stay_as_they_were(self):
        steps = list(self.STEPS)
        step_at(steps, 7)
        assert_refused(self, "NoNumber", step_at, steps, 3)
        self.assertEqual(steps, self.STEPS)


NESTING = {
    "Oldest": lambda stock, places, asks: Oldest(stock, places),
    "Halving by 1": lambda stock, places, asks: Halving(stock, places, 1),
    "Halving by 2": lambda stock, places, asks: Halving(stock, places, 2),
    "Halving": lambda stock, places, asks: Halving(stock, places),
    "Farthest": lambda stock, places, asks: Farthest(stock, places, asks),
}


class Dearest(Ranked):
    """A rule of one's own that holds what a lesser shelf holds: the thing of the least cost goes."""

    def nests(self):
        return True

    def rank(self, name):
        return (self.stock.cost_of(name),)


class Newest(Ranked):
    """Another one: what was asked last goes."""

    def nests(self):
        return True

    def rank(self, name):
        return (0 - self.last_of(name),)


class Loud(Oldest):
    """An Oldest that writes down each call but those that only tell."""

    def __init__(self, stock, places, holding=True):
        super().__init__(stock, places)
        self.holding = holding
        self.seen = []

    def nests(self):
        return self.holding

    def asked(self, name):
        super().asked(name)
        self.seen.append(("asked", name))

    def choice(self, lying):
        self.seen.append(("choice", list(lying)))
        return super().choice(lying)

    def gone(self, name):
        self.seen.append(("gone", name))

    def came(self, name):
        self.seen.append(("came", name))


class TestWalkByRank(unittest.TestCase):
    def told(self, make, asks):
        return stack_depths(make(stock_of("a b c d"), 1, words(asks)), words(asks))

    def test_oldest(self):
        self.assertEqual(self.told(NESTING["Oldest"], "a b c a b b c"), [None, None, None, 3, 3, 1, 3])
        self.assertEqual(self.told(NESTING["Oldest"], "a b a c b d a"), [None, None, 2, None, 3, None, 4])

    def test_halving(self):
        # Behind a a b c the row is c, a, b: b has the count 1 as c, but was asked longer ago.
        self.assertEqual(self.told(NESTING["Halving"], "a a b c a b"), [None, 1, None, None, 2, 3])
        self.assertEqual(self.told(NESTING["Halving by 1"], "a a b c a b"), [None, 1, None, None, 3, 3])

    def test_farthest(self):
        # Behind a b c the row is c, a, b: a is asked again ahead of b.
        self.assertEqual(self.told(NESTING["Farthest"], "a b c a b"), [None, None, None, 2, 3])
        self.assertEqual(self.told(NESTING["Farthest"], "a b c b a"), [None, None, None, 2, 3])
        # From the ask of d on the rows are d a b c, a d b c, b d a c, c d b a.
        self.assertEqual(self.told(NESTING["Farthest"], "a b c d a b c d"), [None] * 4 + [2, 3, 4, 2])

    def test_no_asks_and_one_thing(self):
        for make in NESTING.values():
            self.assertEqual(self.told(make, ""), [])
            self.assertEqual(self.told(make, "c"), [None])
            self.assertEqual(self.told(make, "c c c"), [None, 1, 1])
            self.assertEqual(stack_depths(make(Stock([]), 1, []), []), [])

    def test_against_their_own_runs_with_each_number_of_places(self):
        stock = stock_of("d c b a")
        for asks in short_rows("abcd", 6):
            for make in NESTING.values():
                self.check_row(make, stock, asks, 5)
        for many in (9, 25):
            stock = wide_stock(many, lambda number: 1)
            for asks in long_rows(stock.names(), 9):
                for make in NESTING.values():
                    self.check_row(make, stock, asks, len(set(asks)) + 1)

    def test_rules_of_ones_own(self):
        stock = stock_of("d c b a")
        for asks in short_rows("abcd", 5):
            for make in (Dearest, Newest):
                self.check_row(lambda stock, places, asks: make(stock, places), stock, asks, 5)

    def check_row(self, make, stock, asks, most):
        depths = stack_depths(make(stock, most, asks), asks)
        for places in range(1, most + 1):
            there = [depth is not None and depth <= places for depth in depths]
            self.assertEqual([row[1] for row in book_of(make(stock, places, asks), asks)], there, (asks, places))
        first = [name not in asks[:number] for number, name in enumerate(asks)]
        self.assertEqual([depth is None for depth in depths], first)

    def test_by_oldest_the_depths_are_those_of_the_one_walk(self):
        for stock, places, asks in long_cases():
            if set(map(stock.room_of, stock.names())) == {1}:
                self.assertEqual(stack_depths(Oldest(stock, places), asks), depths_of(stock, asks))

    def test_the_rules_number_of_places_plays_no_part(self):
        stock = stock_of("a b c d")
        for asks in list(short_rows("abcd", 4)) + list(long_rows(list("abcd"), 6)):
            for make in NESTING.values():
                told = [stack_depths(make(stock, places, asks), asks) for places in (1, 2, 5, 10 ** 6)]
                self.assertEqual(told, [told[0]] * 4)

    def test_the_rule_is_told_of_each_ask_and_nothing_else(self):
        rule = Loud(stock_of("a b c"), 2)
        stack_depths(rule, words("a b c a a b"))
        self.assertEqual(rule.seen, [("asked", name) for name in "abcaab"])
        counting, run = Halving(stock_of("a b c"), 2, 3), Halving(stock_of("a b c"), 2, 3)
        stack_depths(counting, words("a b c a a b"))
        book_of(run, words("a b c a a b"))
        self.assertEqual(counting.counts(), run.counts())
        self.assertEqual([counting.rank(name) for name in "abc"], [run.rank(name) for name in "abc"])

    def test_two_hundred_asks(self):
        stock = wide_stock(50, lambda number: 1)
        asks = stock.names() * 4
        self.assertEqual(stack_depths(Oldest(stock, 1), asks), [None] * 50 + [50] * 150)
        self.assertEqual(len(stack_depths(Farthest(stock, 1, asks), asks)), 200)


class TestRefusedWalkByRank(unittest.TestCase):
    """Each refusal, and each pair that is due at once: the one told first is given."""

    def setUp(self):
        self.stock = stock_of("a b c2 d5")

    def assert_walk(self, title, asks, told=None, holding=True):
        rule = Loud(self.stock, 2, holding)
        refusal = assert_refused(self, title, stack_depths, rule, asks)
        self.assertEqual(rule.seen, [])
        self.assertEqual([rule.rank(name) for name in "abcd"], [(0,)] * 4)
        if told is not None:
            self.assertEqual((refusal.name, refusal.place), told)

    def test_too_many(self):
        self.assert_walk("TooMany", ["a"] * 201)
        self.assertEqual(len(stack_depths(Oldest(self.stock, 2), ["a"] * 200)), 200)

    def test_unknown(self):
        self.assert_walk("Unknown", ["a", "b", "z"], ("z", 2))
        self.assert_walk("Unknown", ["y", "b", "z"], ("y", 0))

    def test_too_wide(self):
        self.assert_walk("TooWide", ["a", "d"], ("d", 1))
        self.assert_walk("TooWide", ["d"], ("d", 0))

    def test_no_rule(self):
        for asks in ([], ["a"], ["a", "b", "a"]):
            self.assert_walk("NoRule", asks, holding=False)
            for make in (Rule, Ranked, First, Hand, Rows):
                assert_refused(self, "NoRule", stack_depths, make(self.stock, 2), asks)

    def test_no_rule_was_told_of_no_ask(self):
        for make in (Rule, Ranked, First, Hand, Rows):
            rule = Watch(make(self.stock, 2))
            assert_refused(self, "NoRule", stack_depths, rule, ["a", "b", "a"])
            self.assertEqual(rule.seen, [])

    def test_unlike(self):
        for asks in (["c"], ["a", "b", "a", "c"], ["c", "a"], ["a"] * 199 + ["c"]):
            self.assert_walk("Unlike", asks)
            for make in NESTING.values():
                assert_refused(self, "Unlike", stack_depths, make(self.stock, 2, asks), asks)
        wide = Stock([("w", 1, 1000)])
        assert_refused(self, "Unlike", stack_depths, Oldest(wide, 10 ** 6), ["w"])

    def test_another_room_that_is_not_asked_is_not_unlike(self):
        self.assertEqual(stack_depths(Oldest(self.stock, 2), ["a", "b", "a"]), [None, None, 2])

    def test_too_many_and_another(self):
        for asks in (["z"] * 201, ["a"] * 200 + ["z"], ["d"] * 201, ["c"] * 201):
            self.assert_walk("TooMany", asks)
        for asks in (["a"] * 201, ["z"] * 201, ["c"] * 201):
            self.assert_walk("TooMany", asks, holding=False)

    def test_unknown_and_another(self):
        self.assert_walk("Unknown", ["z", "d"], ("z", 0))
        self.assert_walk("Unknown", ["a", "z"], ("z", 1), holding=False)
        self.assert_walk("Unknown", ["c", "z"], ("z", 1))
        self.assert_walk("Unknown", ["c", "z"], ("z", 1), holding=False)

    def test_too_wide_and_another(self):
        self.assert_walk("TooWide", ["d", "z"], ("d", 0))
        self.assert_walk("TooWide", ["a", "d"], ("d", 1), holding=False)
        self.assert_walk("TooWide", ["c", "d"], ("d", 1))
        self.assert_walk("TooWide", ["c", "d"], ("d", 1), holding=False)

    def test_no_rule_and_unlike(self):
        self.assert_walk("NoRule", ["a", "c"], holding=False)
        assert_refused(self, "NoRule", stack_depths, First(self.stock, 2), ["c"])


class TestCopies(unittest.TestCase):
    def test_what_is_handed_in_stays_as_it_was(self):
        stock = stock_of("a b2 c3 d")
        before = stock.names(), [stock.thing_of(name) for name in "abcd"]
        for text in ("a b a c", "a d d a", "", "a z"):
            asks = words(text)
            for tell in (depths_of, steps_of, lambda stock, asks: stack_depths(Oldest(stock, 2), asks)):
                try:
                    tell(stock, asks)
                except ValueError:
                    pass
                self.assertEqual(asks, words(text))
        self.assertEqual((stock.names(), [stock.thing_of(name) for name in "abcd"]), before)

    def test_lists_told_are_the_askers_own(self):
        stock = stock_of("a b c")
        asks = words("a b a c b")
        tells = (
            lambda: depths_of(stock, asks),
            lambda: steps_of(stock, asks),
            lambda: stack_depths(Oldest(stock, 2), asks),
        )
        for tell in tells:
            told, again = tell(), tell()
            self.assertEqual(told, again)
            told.clear()
            self.assertEqual(tell(), again)
            self.assertEqual(asks, words("a b a c b"))

    def test_kinds(self):
        stock = stock_of("a b2 c4")
        asks = words("a b b c a")
        for depth in depths_of(stock, asks):
            self.assertIn(type(depth), (int, type(None)))
        for step in steps_of(stock, asks):
            self.assertEqual([type(step)] + [type(part) for part in step], [tuple, int, int, int])
        for depth in stack_depths(Oldest(stock, 4), words("a a a")):
            self.assertIn(type(depth), (int, type(None)))


if __name__ == "__main__":
    unittest.main()
