import unittest

from castoff.books import lying_after
from castoff.rules import Farthest, First, Halving, Oldest, Ranked, Rule, book_of
from castoff.stock import Stock
from tests.helper import NO_PLACES, RowTests, Watch, assert_refused, book_from, plain_run, stock_of, wide_stock

PLAIN_MAKERS = {
    "Rule": lambda stock, places, asks: Rule(stock, places),
    "Ranked": lambda stock, places, asks: Ranked(stock, places),
    "Oldest": lambda stock, places, asks: Oldest(stock, places),
    "First": lambda stock, places, asks: First(stock, places),
    "Halving": lambda stock, places, asks: Halving(stock, places),
    "Halving by 1": lambda stock, places, asks: Halving(stock, places, 1),
    "Halving by 3": lambda stock, places, asks: Halving(stock, places, 3),
    "Farthest": lambda stock, places, asks: Farthest(stock, places, asks),
}


def first_of(asks, number, shelf):
    return shelf[0]


def longest_not_asked(asks, number, shelf):
    past = asks[:number + 1][::-1]
    return max(shelf, key=past.index)


def count_by_blocks(past, turn, name):
    """The count told block by block: each block halves what was and adds its own asks."""
    count = 0
    for start in range(0, len(past), turn):
        count = count // 2 + past[start:start + turn].count(name)
    return count


def least_counted(turn):
    def pick(asks, number, shelf):
        past = asks[:number + 1]
        counts = {name: count_by_blocks(past, turn, name) for name in shelf}
        least = [name for name in shelf if counts[name] == min(counts.values())]
        return longest_not_asked(asks, number, least)
    return pick


def asked_again_last(asks, number, shelf):
    rest = asks[number + 1:]
    never = [name for name in shelf if name not in rest]
    if never:
        return longest_not_asked(asks, number, never)
    return max(shelf, key=rest.index)


PICKS = {
    "Rule": first_of,
    "Ranked": longest_not_asked,
    "Oldest": longest_not_asked,
    "First": first_of,
    "Halving": least_counted(8),
    "Halving by 1": least_counted(1),
    "Halving by 3": least_counted(3),
    "Farthest": asked_again_last,
}


def ranks(rule):
    return [rule.rank(name) for name in rule.stock.names()]


def ranks_at_asks(make, stock, places, asks):
    """All ranks ahead of the run, and whenever an ask was told."""
    rule = Watch(make(stock, places, asks), ranks)
    ahead = ranks(rule.rule)
    book_of(rule, asks)
    return [ahead] + [told for title, given, told in rule.seen if title == "asked"]


class Told(Rule):
    """A rule that writes down what a run tells it, and lets what the test says go."""

    def __init__(self, stock, places, going):
        super().__init__(stock, places)
        self.going = list(going)
        self.seen = []

    def asked(self, name):
        self.seen.append(("asked", name))

    def choice(self, lying):
        self.seen.append(("choice", list(lying)))
        lying.clear()
        return self.going.pop(0)

    def gone(self, name):
        self.seen.append(("gone", name))

    def came(self, name):
        self.seen.append(("came", name))


class TestRun(unittest.TestCase):
    def test_what_a_run_tells_its_rule(self):
        rule = Told(stock_of("a b2 c3"), 4, "ba")
        self.assertEqual(book_of(rule, "a b a c".split()), book_from("a- b- a+ c-b"))
        self.assertEqual(rule.seen, [
            ("asked", "a"), ("came", "a"), ("asked", "b"), ("came", "b"), ("asked", "a"),
            ("asked", "c"), ("choice", ["a", "b"]), ("gone", "b"), ("came", "c"),
        ])

    def test_as_many_go_as_room_is_lacking(self):
        rule = Told(stock_of("a b c3 d2"), 4, "badc")
        self.assertEqual(book_of(rule, "a d b c d a".split()), book_from("a- d- b- c-b,a,d d-c a-"))
        self.assertEqual([given for title, given in rule.seen if title == "choice"], [
            ["a", "d", "b"], ["a", "d"], ["d"], ["c"],
        ])

    def test_places_are_lacking_by_one(self):
        rule = Told(stock_of("a b c3"), 4, "b")
        self.assertEqual(book_of(rule, "a b c".split()), book_from("a- b- c-b"))
        rule = Told(stock_of("a b c3"), 5, "")
        self.assertEqual(book_of(rule, "a b c".split()), book_from("a- b- c-"))

    def test_the_list_is_in_the_order_put_on(self):
        rule = Told(stock_of("a b c d"), 3, "abd")
        self.assertEqual(book_of(rule, "a b c a d a".split()), book_from("a- b- c- a+ d-a a-b"))
        self.assertEqual([given for title, given in rule.seen if title == "choice"], [["a", "b", "c"], ["b", "c", "d"]])

    def test_no_asks(self):
        rule = Told(stock_of("a"), 1, "")
        self.assertEqual(book_of(rule, []), [])
        self.assertEqual(rule.seen, [])

    def test_refused_ahead_of_all_else(self):
        stock = stock_of("a b2 c3")
        for title, asks in (
            ("TooMany", ["a"] * 201), ("TooMany", ["z"] * 201),
            ("Unknown", ["a", "z", "c"]), ("TooWide", ["a", "c", "z"]),
        ):
            rule = Told(stock, 2, "")
            assert_refused(self, title, book_of, rule, asks)
            self.assertEqual(rule.seen, [])

    def test_what_a_refusal_tells(self):
        for name, make in PLAIN_MAKERS.items():
            rule = make(stock_of("a b2 c3"), 2, [])
            refusal = assert_refused(self, "Unknown", book_of, rule, ["a", "b", "zz", "c"])
            self.assertEqual((refusal.name, refusal.place), ("zz", 2), name)
            refusal = assert_refused(self, "TooWide", book_of, rule, ["a", "c", "zz"])
            self.assertEqual((refusal.name, refusal.place), ("c", 1), name)

    def test_a_refused_row_is_no_run(self):
        asks = "a b c a b d d a c b a".split()
        stock = stock_of("a b c d w5")
        for name, make in PLAIN_MAKERS.items():
            rule = make(stock, 2, asks)
            for bad in (["a", "z"], ["a", "w"], ["a"] * 201):
                with self.assertRaises(ValueError):
                    book_of(rule, bad)
            self.assertEqual(book_of(rule, asks), book_of(make(stock, 2, asks), asks), name)

    def test_two_hundred_asks(self):
        self.assertEqual(len(book_of(Rule(stock_of("a b"), 1), ["a", "b"] * 100)), 200)

    def test_the_lists_of_a_book_are_apart(self):
        for name, make in PLAIN_MAKERS.items():
            asks = "a a b c c a".split()
            rule = make(stock_of("a b c"), 2, asks)
            book = book_of(rule, asks)
            again = book_of(make(stock_of("a b c"), 2, asks), asks)
            self.assertEqual(book, again, name)
            book[1][2].append("z")
            self.assertEqual(book[0], again[0])
            self.assertEqual(book[2:], again[2:])
            self.assertEqual(asks, "a a b c c a".split())


class TestEveryRule(RowTests, unittest.TestCase):
    def each_book(self, stock, places, asks):
        for name, make in PLAIN_MAKERS.items():
            given = list(asks)
            book = book_of(make(stock, places, given), given)
            self.assertEqual(given, asks)
            self.assertEqual(book, plain_run(stock, places, asks, PICKS[name]), (name, places, asks))
            self.assertEqual(len(lying_after(stock, asks, places, book)), len(asks))

    def test_one_place(self):
        for name, make in PLAIN_MAKERS.items():
            asks = "a a b a b b".split()
            self.assertEqual(book_of(make(stock_of("a b"), 1, asks), asks), book_from("a- a+ b-a a-b b-a b+"), name)

    def test_a_million_places(self):
        stock = wide_stock(60, lambda number: 1000)
        asks = stock.names() + stock.names()[::-1]
        for name, make in PLAIN_MAKERS.items():
            book = book_of(make(stock, 10 ** 6, asks), asks)
            self.assertEqual(book, [(t, k < 0, []) for k, t in zip([1] * 60 + [-1] * 60, asks)], name)

    def test_no_asks(self):
        for make in PLAIN_MAKERS.values():
            self.assertEqual(book_of(make(stock_of("a"), 1, []), []), [])
            self.assertEqual(book_of(make(Stock([]), 10 ** 6, []), []), [])

    def test_fields(self):
        stock = stock_of("a b")
        for make in PLAIN_MAKERS.values():
            for places in (1, 7, 10 ** 6):
                rule = make(stock, places, ["a"])
                self.assertIs(rule.stock, stock)
                self.assertEqual(rule.places, places)

    def test_no_places(self):
        for make in PLAIN_MAKERS.values():
            for places in NO_PLACES:
                assert_refused(self, "NoNumber", make, stock_of("a"), places, [])
                assert_refused(self, "NoNumber", make, Stock([]), places, [])

    def test_a_stock_wider_than_the_shelf_is_no_fault(self):
        for make in PLAIN_MAKERS.values():
            self.assertEqual(book_of(make(stock_of("a b9"), 1, ["a"]), ["a"]), book_from("a-"))

    def test_nests(self):
        told = {name: make(stock_of("a"), 1, []).nests() for name, make in PLAIN_MAKERS.items()}
        self.assertEqual(told, {
            "Rule": False, "Ranked": False, "Oldest": True, "First": False, "Halving": True, "Halving by 1": True,
            "Halving by 3": True, "Farthest": True,
        })
        self.assertTrue(all(truth is True or truth is False for truth in told.values()))

    def test_nests_is_the_same_amid_and_behind_a_run(self):
        asks = "a b c a".split()
        for make in PLAIN_MAKERS.values():
            rule = Watch(make(stock_of("a b c"), 2, asks), lambda rule: rule.nests())
            before = rule.rule.nests()
            book_of(rule, asks)
            self.assertEqual({told for title, given, told in rule.seen}, {before})
            self.assertIs(rule.rule.nests(), before)

    def test_nothing_is_given_back(self):
        for make in PLAIN_MAKERS.values():
            rule = make(stock_of("a b"), 1, ["a", "b"])
            self.assertIsNone(rule.asked("a"))
            self.assertIsNone(rule.came("a"))
            self.assertIsNone(rule.asked("b"))
            self.assertEqual(rule.choice(["a"]), "a")
            self.assertIsNone(rule.gone("a"))
            self.assertIsNone(rule.came("b"))

    def test_the_list_of_a_choice_stays_as_it_was(self):
        asks = "c a b c a d".split()
        for make in PLAIN_MAKERS.values():
            rule = make(stock_of("a b c d"), 3, asks)
            for name in "cab":
                rule.asked(name)
                rule.came(name)
            rule.asked("d")
            lying = ["c", "a", "b"]
            first = rule.choice(lying)
            self.assertEqual(lying, ["c", "a", "b"])
            self.assertEqual(rule.choice(lying), first)

    def test_classes(self):
        self.assertEqual(Ranked.__bases__, (Rule,))
        for kind in (Oldest, First, Halving, Farthest):
            self.assertEqual(kind.__bases__, (Ranked,))


class TestPlainRule(unittest.TestCase):
    def test_by_hand(self):
        book = book_of(Rule(stock_of("a b c d"), 3), "a b c a d a b".split())
        self.assertEqual(book, book_from("a- b- c- a+ d-a a-b b-c"))

    def test_rooms_that_are_unlike(self):
        book = book_of(Rule(stock_of("a b2 c3 d4"), 5), "a b a c d a b".split())
        self.assertEqual(book, book_from("a- b- a+ c-a d-b,c a- b-d"))

    def test_it_keeps_no_record(self):
        rule = Rule(stock_of("a b c"), 2)
        book_of(rule, "a b c a".split())
        self.assertEqual(rule.choice(["c", "a"]), "c")
        self.assertEqual(rule.choice(["a", "b", "c"]), "a")
        self.assertEqual(rule.choice(["b"]), "b")
        self.assertEqual(book_of(rule, "a b c a".split()), book_of(Rule(stock_of("a b c"), 2), "a b c a".split()))


class TestRanked(unittest.TestCase):
    def test_by_hand(self):
        for kind in (Ranked, Oldest):
            book = book_of(kind(stock_of("a b c d"), 3), "a b c a d a b".split())
            self.assertEqual(book, book_from("a- b- c- a+ d-b a+ b-c"))

    def test_rooms_that_are_unlike(self):
        for kind in (Ranked, Oldest):
            book = book_of(kind(stock_of("a b2 c3 d4"), 5), "a b a c a d b".split())
            self.assertEqual(book, book_from("a- b- a+ c-b a+ d-c b-a,d"))

    def test_ranks_ahead_amid_and_behind(self):
        for kind in (Ranked, Oldest):
            told = ranks_at_asks(lambda stock, places, asks: kind(stock, places), stock_of("a b c"), 1, "b a b".split())
            self.assertEqual(told, [
                [(0,), (0,), (0,)], [(0,), (1,), (0,)], [(2,), (1,), (0,)], [(2,), (3,), (0,)],
            ])

    def test_ranks_behind_a_run(self):
        rule = Oldest(stock_of("a b c d"), 2)
        book_of(rule, "a b c a b b".split())
        self.assertEqual(ranks(rule), [(4,), (6,), (3,), (0,)])

    def test_ranks_count_the_present_ask_ahead_of_the_choice(self):
        rule = Watch(Ranked(stock_of("a b"), 1), ranks)
        book_of(rule, ["a", "b"])
        self.assertEqual([told for title, given, told in rule.seen if title == "choice"], [[(1,), (2,)]])

    def test_going_and_coming_change_no_rank(self):
        rule = Oldest(stock_of("a b"), 1)
        rule.asked("a")
        rule.came("a")
        rule.asked("b")
        before = ranks(rule)
        rule.gone(rule.choice(["a"]))
        self.assertEqual(ranks(rule), before)
        rule.came("b")
        self.assertEqual(ranks(rule), before)

    def test_the_first_of_several_goes(self):
        for make in (Ranked, Oldest, First, Halving):
            rule = make(stock_of("a b c"), 3)
            self.assertEqual(rule.choice(["b", "c", "a"]), "b")
            self.assertEqual(rule.choice(["c", "a", "b"]), "c")

    def test_the_choice_goes_by_whatever_the_rank_is(self):
        class ByNumber(Ranked):
            def rank(self, name):
                return (0 - self.stock.number_of(name) // 2, 5, self.stock.number_of(name) % 2)

        self.assertEqual(ByNumber(stock_of("a b c d"), 2).choice(list("badc")), "c")
        self.assertEqual(book_of(ByNumber(stock_of("a b c d"), 2), list("abcd")), book_from("a- b- c-a d-c"))

    def test_ranks_are_tuples_of_whole_numbers(self):
        asks = "a b c a b".split()
        for name, make in PLAIN_MAKERS.items():
            if name != "Rule":
                rule = Watch(make(stock_of("a b c"), 2, asks), ranks)
                seen = [ranks(rule.rule)]
                book_of(rule, asks)
                seen += [told for title, given, told in rule.seen]
                for rank in sum(seen, []):
                    self.assertIs(type(rank), tuple)
                    self.assertEqual({type(part) for part in rank}, {int})

    def test_telling_ranks_changes_nothing(self):
        asks = "a b c a d b b c a d a c".split()
        for name, make in PLAIN_MAKERS.items():
            if name != "Rule":
                rule = make(stock_of("a b c d"), 2, asks)
                self.assertEqual(ranks(rule), ranks(rule))
                watched = Watch(rule, lambda rule: (ranks(rule), rule.nests()))
                self.assertEqual(book_of(watched, asks), book_of(make(stock_of("a b c d"), 2, asks), asks), name)


class TestFirst(unittest.TestCase):
    def test_by_hand(self):
        book = book_of(First(stock_of("a b c d"), 3), "a b c a d a b".split())
        self.assertEqual(book, book_from("a- b- c- a+ d-a a-b b-c"))

    def test_rooms_that_are_unlike(self):
        book = book_of(First(stock_of("a b2 c3 d4"), 5), "a b a c a d b".split())
        self.assertEqual(book, book_from("a- b- a+ c-a a-b d-c b-a,d"))

    def test_ranks_ahead_amid_and_behind(self):
        rule = Watch(First(stock_of("a b c"), 1), ranks)
        self.assertEqual(ranks(rule.rule), [(0,), (0,), (0,)])
        book_of(rule, "a a b a".split())
        self.assertEqual(rule.seen, [
            ("asked", "a", [(0,), (0,), (0,)]),
            ("came", "a", [(1,), (0,), (0,)]),
            ("asked", "a", [(1,), (0,), (0,)]),
            ("asked", "b", [(1,), (0,), (0,)]),
            ("choice", ["a"], [(1,), (0,), (0,)]),
            ("gone", "a", [(1,), (0,), (0,)]),
            ("came", "b", [(1,), (3,), (0,)]),
            ("asked", "a", [(1,), (3,), (0,)]),
            ("choice", ["b"], [(1,), (3,), (0,)]),
            ("gone", "b", [(1,), (3,), (0,)]),
            ("came", "a", [(4,), (3,), (0,)]),
        ])

    def test_the_choice_goes_by_the_rank_not_by_the_list(self):
        rule = First(stock_of("a b c"), 3)
        for name in "bca":
            rule.asked(name)
            rule.came(name)
        self.assertEqual(rule.choice(["a", "c", "b"]), "b")
        self.assertEqual(rule.choice(["a", "c"]), "c")


class TestHalving(unittest.TestCase):
    def test_by_hand(self):
        rule = Halving(stock_of("a b c"), 2, 2)
        self.assertEqual(book_of(rule, "a a b c b a".split()), book_from("a- a+ b- c-a b+ a-c"))
        self.assertEqual(rule.counts(), {"a": 1, "b": 1, "c": 0})

    def test_rooms_that_are_unlike(self):
        rule = Halving(stock_of("a b2 c3 d4"), 5, 3)
        # Ahead of the 4th ask a has 2 and b 1, so 1 and 0; ahead of the 7th a, b, c, d have 1, 0, 2, 1, so 0, 0, 1, 0.
        self.assertEqual(book_of(rule, "a b a c c d b".split()), book_from("a- b- a+ c-b c+ d-a,c b-d"))
        self.assertEqual(rule.counts(), {"a": 0, "b": 1, "c": 1, "d": 0})

    def test_what_is_counted_more_stays_though_it_was_asked_longer_ago(self):
        book = book_of(Halving(stock_of("a b c"), 2), "a a b c b a".split())
        self.assertEqual(book, book_from("a- a+ b- c-b b-c a+"))

    def counts_behind(self, turn, text):
        asks = text.split()
        told = []
        for number in range(len(asks) + 1):
            rule = Halving(stock_of("a b c"), 3, turn)
            book_of(rule, asks[:number])
            told.append(list(rule.counts().items()))
        return told

    def test_counts_ahead_amid_and_behind(self):
        self.assertEqual(self.counts_behind(2, "b b b a a b b"), [
            [],
            [("b", 1)],
            [("b", 2)],
            [("b", 2)],
            [("b", 2), ("a", 1)],
            [("b", 1), ("a", 1)],
            [("b", 2), ("a", 1)],
            [("b", 2), ("a", 0)],
        ])

    def test_halved_to_0_and_staying(self):
        self.assertEqual(self.counts_behind(1, "a b b c a"), [
            [],
            [("a", 1)],
            [("a", 0), ("b", 1)],
            [("a", 0), ("b", 1)],
            [("a", 0), ("b", 0), ("c", 1)],
            [("a", 1), ("b", 0), ("c", 0)],
        ])

    def test_half_is_left_out(self):
        self.assertEqual(self.counts_behind(3, "a a a b")[-2:], [[("a", 3)], [("a", 1), ("b", 1)]])
        self.assertEqual(self.counts_behind(5, "a a a a a b")[-1], [("a", 2), ("b", 1)])

    def test_the_turn_is_8_where_none_is_handed_in(self):
        for many, count in ((7, 7), (8, 8), (9, 5), (16, 12), (17, 7), (24, 14), (25, 8)):
            rule = Halving(stock_of("a"), 1)
            book_of(rule, ["a"] * many)
            self.assertEqual(rule.counts(), {"a": count})
            same = Halving(stock_of("a"), 1, 8)
            book_of(same, ["a"] * many)
            self.assertEqual(same.counts(), {"a": count})

    def test_bounds_of_a_turn(self):
        for turn, count in ((1, 1), (2, 3), (199, 100), (200, 200)):
            rule = Halving(stock_of("a"), 1, turn)
            book_of(rule, ["a"] * 200)
            self.assertEqual(rule.counts(), {"a": count})
        for many in (100, 199, 200):
            rule = Halving(stock_of("a"), 1, turn=200)
            book_of(rule, ["a"] * many)
            self.assertEqual(rule.counts(), {"a": many})

    def test_no_turn(self):
        for turn in (0, -1, 201, 10 ** 6, True, False, None, "8", "", 8.0, [8], [], (8,), (), {}, object()):
            assert_refused(self, "NoNumber", Halving, stock_of("a"), 1, turn)
            assert_refused(self, "NoNumber", Halving, stock_of("a"), 0, turn)
        for places in NO_PLACES:
            assert_refused(self, "NoNumber", Halving, stock_of("a"), places, 0)
            assert_refused(self, "NoNumber", Halving, stock_of("a"), places, 8)

    def test_ranks_ahead_amid_and_behind(self):
        make = lambda stock, places, asks: Halving(stock, places, 2)
        told = ranks_at_asks(make, stock_of("a b"), 1, "a a b a".split())
        self.assertEqual(told, [
            [(0, 0), (0, 0)], [(1, 1), (0, 0)], [(2, 2), (0, 0)], [(1, 2), (1, 3)], [(2, 4), (1, 3)],
        ])

    def test_counts_between_all_calls_of_a_run(self):
        rule = Watch(Halving(stock_of("a b"), 1, 1), lambda rule: rule.counts())
        book_of(rule, ["a", "b"])
        self.assertEqual(rule.seen, [
            ("asked", "a", {"a": 1}), ("came", "a", {"a": 1}), ("asked", "b", {"a": 0, "b": 1}),
            ("choice", ["a"], {"a": 0, "b": 1}), ("gone", "a", {"a": 0, "b": 1}), ("came", "b", {"a": 0, "b": 1}),
        ])

    def test_the_count_of_what_went_is_kept(self):
        rule = Halving(stock_of("a b c"), 1)
        book_of(rule, "a a b c a".split())
        self.assertEqual(list(rule.counts().items()), [("a", 3), ("b", 1), ("c", 1)])

    def test_counts_are_the_askers_own(self):
        rule = Halving(stock_of("a b"), 1)
        rule.asked("a")
        counts = rule.counts()
        counts["a"] = 100
        counts["b"] = 7
        self.assertEqual(rule.counts(), {"a": 1})
        self.assertEqual(ranks(rule), [(1, 1), (0, 0)])
        rule.asked("b")
        self.assertEqual(counts, {"a": 100, "b": 7})
        self.assertEqual(rule.counts(), {"a": 1, "b": 1})


class TestFarthest(unittest.TestCase):
    def by_hand(self, stock, places, text, book):
        asks = text.split()
        self.assertEqual(book_of(Farthest(stock_of(stock), places, asks), asks), book_from(book))

    def test_by_hand(self):
        self.by_hand("a b c d", 3, "a b c a d a b", "a- b- c- a+ d-c a+ b+")
        self.by_hand("a b c d", 2, "a b c b a c d a", "a- b- c-a b+ a-b c+ d-c a+")

    def test_never_asked_again(self):
        self.by_hand("a b c d e", 3, "a b c b d e", "a- b- c- b+ d-a e-c")
        self.by_hand("a b c d", 2, "b a b c d", "b- a- b+ c-a d-b")
        self.by_hand("a b c d", 3, "c b a d b", "c- b- a- d-c b+")

    def test_rooms_that_are_unlike(self):
        self.by_hand("a b2 c3 d4", 5, "a b a c b d a", "a- b- a+ c-a b+ d-c,b a-")

    def test_the_present_ask_is_not_a_coming_one(self):
        self.by_hand("a b c", 2, "a b a c b a", "a- b- a+ c-a b+ a-c")

    def test_ranks_ahead_amid_and_behind(self):
        make = PLAIN_MAKERS["Farthest"]
        told = ranks_at_asks(make, stock_of("a b c"), 2, "b a b".split())
        self.assertEqual(told, [
            [(-2, 0), (-1, 0), (-4, 0)],
            [(-2, 0), (-3, 1), (-4, 0)],
            [(-4, 2), (-3, 1), (-4, 0)],
            [(-4, 2), (-4, 3), (-4, 0)],
        ])

    def test_ranks_with_no_asks(self):
        rule = Farthest(stock_of("a b"), 1, [])
        self.assertEqual(ranks(rule), [(-1, 0), (-1, 0)])

    def test_the_row_handed_in_may_be_changed(self):
        asks = "a b c a d a b".split()
        kept = list(asks)
        rule = Farthest(stock_of("a b c d"), 3, asks)
        self.assertEqual(asks, kept)
        asks.reverse()
        self.assertEqual(ranks(rule), [(-1, 0), (-2, 0), (-3, 0), (-5, 0)])
        asks.clear()
        self.assertEqual(book_of(rule, kept), book_from("a- b- c- a+ d-c a+ b+"))

    def test_two_hundred_asks(self):
        asks = ["a", "b", "c", "d"] * 50
        rule = Farthest(stock_of("a b c d"), 2, asks)
        self.assertEqual(ranks(rule), [(-1, 0), (-2, 0), (-3, 0), (-4, 0)])
        self.assertEqual(len(book_of(rule, asks)), 200)
        self.assertEqual(ranks(rule), [(-201, 197), (-201, 198), (-201, 199), (-201, 200)])

    def test_refused_as_the_asks_are(self):
        stock = stock_of("a b2 c3")
        for places in NO_PLACES:
            for asks in (["a"], ["z"], ["a"] * 201):
                assert_refused(self, "NoNumber", Farthest, stock, places, asks)
        for asks in (["a"] * 201, ["z"] * 201, ["c"] * 201):
            assert_refused(self, "TooMany", Farthest, stock, 2, asks)
        refusal = assert_refused(self, "Unknown", Farthest, stock, 2, ["a", "z", "c"])
        self.assertEqual((refusal.name, refusal.place), ("z", 1))
        refusal = assert_refused(self, "TooWide", Farthest, stock, 2, ["a", "c", "z"])
        self.assertEqual((refusal.name, refusal.place), ("c", 1))


if __name__ == "__main__":
    unittest.main()
