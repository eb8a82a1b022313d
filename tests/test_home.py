import random
import unittest

from downhillnet.books import Book
from downhillnet.errors import BadHeaps, BadLevels, BadNumber, BadTicks, NotHoming, NoWay
from downhillnet.flows import has_flow
from downhillnet.home import (
    home_at, home_levels, home_margin, home_ticks, homing, is_homing, least_passing, potential, ways, with_levels,
    with_margin,
)
from downhillnet.runs import Run, heaps_of, passes_of, run_from
from downhillnet.weather import calm, first_bad, rough
from tests.tools import TEXT, Case, any_values, some_books, some_ticks, some_weather

PLAIN = Book("net 2 0 0\ngoal z\nstation a 0 1\nstation b 0 0\nlink a b 2 1\nlink b z 1 1")
HOME = Book("net 2 3 0\ngoal z\nstation a 8 1\nstation b 4 0\nlink a b 2 1\nlink b z 1 1")
BAD_HEAPS = [(1,), (1, 2, 3), [1, 2], (1, -1), (True, 1), (0, False), ("1", 1), (None, 1), {1: 2}, 3, *any_values()]


def told_ways(book):
    """The way of each station: the least many so that one comes home over so many links, word by word."""
    told = []
    for name, _, _ in book.stations:
        there, way = {name}, 0
        while book.goal not in there and way <= len(book):
            there = {link[1] for link in book.links if link[0] in there and link[3] > 0}
            way += 1
        told.append(way if book.goal in there else None)
    return tuple(told)


def with_all_ways(seed, many):
    """Books in which each station has a way."""
    return [book for book in some_books(random.Random(seed), many) if None not in told_ways(book)]


def told_passing(book, heaps, age):
    """The links that pass something, each alone, of heaps that have stood for long: by runs, each with one tick."""
    told = []
    for number in range(len(book.links)):
        passes = run_from(book, heaps).go_on(((0,) * len(book), (number,), (age,) * len(book.links)))
        if sum(passes) > 0:
            told.append(number)
    return tuple(told)


class Ways(Case):

    def test_beside_plain_steps(self):
        kinds = set()
        for book in some_books(random.Random(1), 400):
            told = told_ways(book)
            self.same(ways(book), told)
            kinds |= set(told)
            if None in told:
                name = book.stations[told.index(None)][0]
                self.refused(NoWay, name, home_levels, book)
                self.refused(NoWay, name, homing, book)
                self.assertIs(is_homing(book), False)
            else:
                self.same(home_levels(book), tuple((book.margin + 1) * way for way in told))
        self.assertLessEqual({None, 1, 2, 3}, kinds)

    def test_links_that_are_never_open_lead_nobody_home(self):
        book = Book("net 2 1 0\ngoal z\nstation a 0 1\nstation b 0 0\nlink a z 9 0\nlink a b 1 1\nlink b z 1 2")
        self.same([ways(book), home_levels(book)], [(2, 1), (4, 2)])
        book = Book(book.text.replace("link b z 1 2", "link b z 1 0"))
        self.same(ways(book), (None, None))
        self.refused(NoWay, "a", home_levels, book)

    def test_the_first_station_without_a_way(self):
        book = Book("net 2 1 0\ngoal z\nstation d 0 1\nstation c 0 0\nstation b 0 0\nstation a 0 0\nlink d z 1 1\nlink c b 1 1")
        self.same(ways(book), (1, None, None, None))
        for call in (home_levels, homing):
            self.refused(NoWay, "c", call, book)

    def test_a_row_of_twenty(self):
        names = "abcdefghijklmnopqrst"
        lines = ["net 1 10000000 20", "goal z", *[f"station {name} 0 0" for name in names], "link a z 1000 1"]
        book = Book("\n".join([*lines, *[f"link {one} {other} 1000 1" for one, other in zip(names[1:], names)]]))
        self.same(ways(book), tuple(range(1, 21)))
        self.same(home_levels(book)[-1], 200000020)
        self.same([homing(book).stations[19][1], is_homing(homing(book))], [200000020, True])
        self.same(home_margin(book), 21 * 20000)

    def test_a_ring_and_a_short_cut(self):
        text = "net 1 0 0\ngoal z\nstation a 0 0\nstation b 0 0\nstation c 0 0\nlink a b 1 1\nlink b c 1 1\nlink c a 1 1"
        self.same([ways(Book(text)), ways(Book(text + "\nlink c z 1 1"))], [(None,) * 3, (3, 2, 1)])
        self.same(ways(Book(text + "\nlink c z 1 1\nlink a z 1 1")), (1, 2, 1))


class Made(Case):

    def test_with_levels(self):
        for book in some_books(random.Random(2), 60):
            levels = tuple(range(7, 7 + len(book)))
            other = with_levels(book, levels)
            self.same(other.stations, tuple((name, 7 + at, put) for at, (name, _, put) in enumerate(book.stations)))
            self.same([other.links, other.goal, other.window, other.margin, other.late],
                      [book.links, book.goal, book.window, book.margin, book.late])

    def test_levels_at_their_bounds(self):
        for levels in ((0, 0), (300000000, 0), (0, 300000000)):
            self.same([station[1] for station in with_levels(PLAIN, levels).stations], list(levels))
        for levels in [
            (300000001, 0), (0, 300000001), (-1, 0), (0, -1), (1,), (1, 2, 3), [1, 2], (True, 1), (1, False), ("1", 2),
            None, (None, 1), {1: 2}, *any_values(),
        ]:
            with self.assertRaises(BadLevels) as caught:
                with_levels(PLAIN, levels)
            self.assertIs(caught.exception.value, levels)

    def test_with_margin(self):
        for margin in (0, 1, 9999999, 10000000):
            other = with_margin(PLAIN, margin)
            self.same(other.text, PLAIN.text.replace("net 2 0 0", f"net 2 {margin} 0"))
        for margin in (-1, 10000001, True, False, "1", None, (1,), [1], *any_values()):
            with self.assertRaises(BadNumber) as caught:
                with_margin(PLAIN, margin)
            self.assertIs(caught.exception.value, margin)

    def test_home_margin(self):
        self.same([home_margin(PLAIN), home_margin(Book("net 3 0 4\ngoal z\nstation a 0 0"))], [3, 0])
        for book in some_books(random.Random(3), 60):
            self.same(home_margin(book), (book.late + 1) * sum(link[2] for link in book.links))

    def test_is_homing(self):
        self.same([is_homing(PLAIN), is_homing(HOME)], [False, True])
        for text, right in (
            (HOME.text.replace("net 2 3 0", "net 2 2 0"), False),
            (HOME.text.replace("net 2 3 0", "net 2 4 0"), False),
            (HOME.text.replace("net 2 3 0", "net 2 4 0").replace("a 8", "a 10").replace("b 4", "b 5"), True),
            (HOME.text.replace("net 2 3 0", "net 2 2 0").replace("a 8", "a 6").replace("b 4", "b 3"), False),
            (HOME.text.replace("station a 8", "station a 7"), False),
            (HOME.text.replace("station a 8", "station a 9"), False),
            (HOME.text.replace("station b 4", "station b 3"), False),
            (HOME.text.replace("station b 4", "station b 5"), False),
            (HOME.text.replace("net 2 3 0", "net 2 3 1"), False),
            (HOME.text.replace("link b z 1 1", "link b z 1 0"), False),
            (HOME.text.replace("link b z 1 1", "link b z 2 1"), False),
            (HOME.text + "\nlink a z 1 0", False),
            (HOME.text.replace("station a 8 1", "station a 8 999"), True),
        ):
            self.assertIs(is_homing(Book(text)), right)

    def test_homing(self):
        books = with_all_ways(4, 300)
        self.assertGreater(len(books), 60)
        for book in books:
            home = homing(book)
            self.assertIs(is_homing(home), True)
            margin = max(book.margin, home_margin(book))
            levels = tuple((margin + 1) * way for way in ways(book))
            self.same(home, with_levels(with_margin(book, margin), levels))
            self.same(homing(home), home)
            self.near_ones(home)

    def near_ones(self, home):
        """With one packet of margin less, or of a level, it is not homing."""
        if home.margin == home_margin(home) and home.margin > 0:
            less = with_margin(home, home.margin - 1)
            self.assertIs(is_homing(less), False)
            self.assertIs(is_homing(with_levels(less, home_levels(less))), False)
        levels = tuple(station[1] for station in home.stations)
        for at, level in enumerate(levels):
            for other in (level - 1, level + 1):
                self.assertIs(is_homing(with_levels(home, (*levels[:at], other, *levels[at + 1:]))), False)

    def test_a_greater_margin_stays(self):
        book = with_margin(PLAIN, 100)
        self.same([homing(book).margin, homing(book).stations], [100, (("a", 202, 1), ("b", 101, 0))])


class Numbers(Case):

    def test_potential(self):
        self.same([potential(HOME, heaps) for heaps in ((0, 0), (1, 0), (0, 1), (2, 1), (10 ** 12, 0))],
                  [0, 17, 9, 45, 10 ** 24 + 16 * 10 ** 12])
        chance = random.Random(5)
        for book in some_books(chance, 60):
            heaps = tuple(chance.randint(0, 30) for _ in book.stations)
            told = sum(heap * (heap + 2 * station[1]) for heap, station in zip(heaps, book.stations))
            self.same(potential(book, heaps), told)

    def test_home_ticks(self):
        self.same([home_ticks(HOME, heaps) for heaps in ((0, 0), (1, 0), (0, 1), (2, 1))], [0, 36, 36, 116])
        late = homing(Book(PLAIN.text.replace("net 2 0 0", "net 3 0 2")))
        self.same([late.margin, late.stations[0][1]], [9, 20])
        # With three packets the product is odd: it is halved, and rounded down.
        self.same([home_ticks(late, (1, 2)), home_ticks(late, (0, 0))], [2 + (3 * 43 // 2 + 1) * 8, 0])
        self.same(home_ticks(late, (1, 2)), 522)

    def test_not_homing_ahead_of_bad_heaps(self):
        for value in BAD_HEAPS:
            self.refused(NotHoming, None, home_ticks, PLAIN, value)
            for call in (home_ticks, potential, least_passing):
                with self.assertRaises(BadHeaps) as caught:
                    call(HOME, value)
                self.assertIs(caught.exception.value, value)
        self.refused(NotHoming, None, home_ticks, PLAIN, (0, 0))
        self.refused(NotHoming, None, home_ticks, Book(TEXT), (0, 0))

    def test_least_passing(self):
        self.same([least_passing(HOME, heaps) for heaps in ((1, 0), (1, 3), (0, 0), (0, 1), (1, 1))],
                  [(0,), (1,), (), (1,), (0, 1)])
        chance = random.Random(6)
        for book in some_books(chance, 200):
            for _ in range(4):
                heaps = tuple(chance.choice([0, 0, 1, 2, 5, 9]) for _ in book.stations)
                self.same(least_passing(book, heaps), told_passing(book, heaps, 0))
                self.same(least_passing(book, heaps), told_passing(book, heaps, book.late))

    def test_a_station_without_packets_passes_nothing_however_high_it_is(self):
        book = Book("net 1 0 0\ngoal z\nstation a 9 0\nstation b 0 0\nlink a b 1 1\nlink a z 1 0\nlink b z 1 1")
        self.same([least_passing(book, heaps) for heaps in ((0, 0), (1, 0), (1, 10), (0, 3))], [(), (0, 1), (1, 2), (2,)])

    def test_heaps_without_bound(self):
        self.same(least_passing(HOME, (10 ** 30, 10 ** 30)), (0, 1))
        self.same(home_ticks(HOME, (10 ** 12, 0)), (10 ** 12 * (10 ** 12 + 16) // 2 + 1) * 4)


class HomeAt(Case):
    ONE = ((1, 0), (0, 1), (0, 0))
    NONE = ((0, 0), (0, 1), (0, 0))
    SHUT = ((0, 0), (), (0, 0))

    def test_ahead_at_the_end_and_never(self):
        one, none, shut = self.ONE, self.NONE, self.SHUT
        for ticks, told in (
            ((), 0), ((none,), 0), ((shut, shut), 0), ((one,), None), ((one, none), 2), ((one, none, none), 2),
            ((one, shut, shut), None), ((none, none, one, none), 4), ((one, none, none, one, none, none), 5),
            ((one, none, none, one), None), ((one, shut, none, shut, none), 3), ((shut, one, none), 3),
        ):
            self.same(home_at(HOME, ticks), told)

    def test_beside_all_heaps(self):
        chance = random.Random(7)
        seen = set()
        for book in with_all_ways(8, 300):
            home = homing(book)
            ticks = some_weather(chance, home, 1)
            ticks += tuple(((0,) * len(home), *tick[1:]) for tick in some_weather(chance, home, chance.randint(0, 9)))
            self.assertEqual(home_at(home, ticks), self.told(home, ticks))
            seen.add(self.told(home, ticks) is None)
        self.assertEqual(seen, {True, False})

    def told(self, book, ticks):
        """When all is home, word by word."""
        heaps = heaps_of(book, ticks)
        for t in range(len(ticks) + 1):
            if sum(heaps[t]) == 0 and all(sum(tick[0]) == 0 for tick in ticks[t:]):
                return t
        return None

    def test_what_goes_home_at_the_tick_at_which_it_comes(self):
        tick = ((0, 1), (1,), (0, 0))
        self.same([home_at(HOME, (tick,)), home_at(HOME, (tick, tick)), home_at(HOME, (tick, self.NONE))], [1, 2, 1])

    def test_ticks_need_not_be_a_weather(self):
        ticks = (((9, 0), (), (0, 0)), ((0, 0), (), (0, 0)))
        self.assertIsNotNone(first_bad(HOME, ticks))
        self.assertIsNone(home_at(HOME, ticks))
        chance = random.Random(9)
        for book in some_books(chance, 80):
            ticks = some_ticks(chance, book, 6)
            self.assertEqual(home_at(book, ticks), self.told(book, ticks))

    def test_bad_ticks(self):
        self.refused(BadTicks, 1, home_at, HOME, (self.ONE, ((1,), (), (0, 0))))
        self.refused(BadTicks, None, home_at, HOME, [self.ONE])
        self.refused(BadTicks, None, home_at, HOME, (self.NONE,) * 10001)
        for value in any_values():
            if not isinstance(value, tuple):
                self.refused(BadTicks, None, home_at, HOME, value)
            elif value:
                self.refused(BadTicks, 0, home_at, HOME, value)


class Promise(Case):
    """What section 10 tells for all books that are homing, and all weathers in which nothing more is put in."""

    def quiet(self, chance, book, many):
        """Windows of a weather in which nothing is put in: calm, rough, as seldom open as may be, and drawn ones."""
        none = (0,) * len(book)
        rows = (calm(book) * many, rough(book) * many, some_weather(chance, book, many))
        return [tuple((none, *tick[1:]) for tick in ticks) for ticks in rows]

    def test_all_is_home_and_the_potential_falls(self):
        chance = random.Random(10)
        seen = 0
        for book in with_all_ways(11, 500):
            home = homing(book)
            ahead = some_weather(chance, home, chance.randint(1, 3))
            start = len(ahead)
            lies = heaps_of(home, ahead)[-1]
            ticks = home_ticks(home, lies)
            if not 0 < ticks <= 3000:
                continue
            for quiet in self.quiet(chance, home, ticks // home.window + 1):
                self.falls(home, (*ahead, *quiet[:ticks]), start)
            seen += 1
        self.assertGreater(seen, 15)

    def falls(self, book, ticks, start):
        """From LATE ticks behind start on, what is passed lowers the potential; and all is home at the end."""
        self.assertIsNone(first_bad(book, ticks))
        heaps = heaps_of(book, ticks)
        passes = [sum(row) for row in passes_of(book, ticks)]
        told = home_at(book, ticks)
        self.assertIsNotNone(told)
        self.assertLessEqual(told, len(ticks))
        for t in range(start + book.late, told):
            if passes[t]:
                self.assertGreaterEqual(potential(book, heaps[t]) - potential(book, heaps[t + 1]), 2 * passes[t])
        span = book.late + 2 * book.window
        for t in range(start, told - span + 1):
            self.assertTrue(any(passes[t:t + span]) or sum(heaps[t + span]) == 0)

    def test_with_heaps_to_begin_with(self):
        chance = random.Random(12)
        for book in with_all_ways(13, 150):
            home = homing(book)
            heaps = tuple(chance.choice([0, 0, 1, 2]) for _ in home.stations)
            ticks = home_ticks(home, heaps)
            if ticks > 3000:
                continue
            for quiet in self.quiet(chance, home, ticks // home.window + 1):
                run = run_from(home, heaps)
                for tick in quiet[:ticks]:
                    run.go_on(tick)
                self.same(run.heaps, (0,) * len(home))
                self.same(run.home, sum(heaps))

    def test_it_stays_lying_without_levels(self):
        # Without a flow, and with a margin alone, packets stay; with the levels for it they come home.
        book = with_margin(PLAIN, 3)
        ticks = (((1, 0), (0, 1), (0, 0)), *[((0, 0), (0, 1), (0, 0))] * 99)
        self.assertIs(has_flow(book), True)
        self.same([home_at(book, ticks), home_at(homing(book), ticks)], [None, 2])
        self.same(Run(homing(book)).heaps, (0, 0))


if __name__ == "__main__":
    unittest.main()
