import random
import unittest

from downhillnet.best import most_home
from downhillnet.books import Book
from downhillnet.errors import BadCut, BadLot, BadMoves, BadTicks
from downhillnet.flows import excess, has_flow, is_cut
from downhillnet.runs import heaps_of, passes_of
from downhillnet.spoil import is_moves, moved, must_lie, shows_spoil, spoil
from downhillnet.weather import calm, first_bad, rough
from tests.tools import TEXT, Case, all_lots, any_values, some_books, some_ticks, some_weather

ROW = Book("net 2 0 0\ngoal home\nstation a 0 3\nstation b 0 0\nlink a b 2 1\nlink b home 1 1")
TICKS = (((3, 0), (0, 1), (0, 0)), ((0, 0), (0, 1), (0, 0)))


def told_heaps(book, ticks, moves):
    """The heaps behind each tick, word by word; the number of the first tick at which these moves cannot be."""
    names = [station[0] for station in book.stations]
    lies = {name: 0 for name in names}
    rows = []
    for number, ((puts, opens, _), row) in enumerate(zip(ticks, moves)):
        for name, put in zip(names, puts):
            lies[name] += put
        for at, (link, many) in enumerate(zip(book.links, row)):
            if not 0 <= many <= (link[2] if at in opens else 0):
                return number
        for name in names:
            if sum(many for link, many in zip(book.links, row) if link[0] == name) > lies[name]:
                return number
        for link, many in zip(book.links, row):
            lies[link[0]] -= many
            if link[1] in lies:
                lies[link[1]] += many
        rows.append(tuple(lies[name] for name in names))
    return tuple(rows)


def some_moves(chance, book, ticks, near=0.0):
    """Moves as they come by chance; now and then with a number that cannot be."""
    lies = [0] * len(book)
    names = [station[0] for station in book.stations]
    rows = []
    for puts, opens, _ in ticks:
        lies = [one + put for one, put in zip(lies, puts)]
        row, come = [], [0] * len(book)
        for number, (whence, whither, room, _) in enumerate(book.links):
            u = names.index(whence)
            many = chance.randint(0, min(room, max(0, lies[u]))) if number in opens else 0
            if chance.random() < near:
                many += chance.choice([1, -1])
            lies[u] -= many
            if whither in names:
                come[names.index(whither)] += many
            row.append(many)
        lies = [one + other for one, other in zip(lies, come)]
        rows.append(tuple(row))
    return tuple(rows)


def greedy_moves(book, ticks):
    """Moves by which all passes that can, wherever it leads."""
    names = [station[0] for station in book.stations]
    lies = [0] * len(book)
    rows = []
    for puts, opens, _ in ticks:
        lies = [one + put for one, put in zip(lies, puts)]
        row, come = [0] * len(book.links), [0] * len(book)
        # What leads home goes first.
        for number in sorted(opens, key=lambda at: book.links[at][1] != book.goal):
            whence, whither, room, _ = book.links[number]
            row[number] = min(room, lies[names.index(whence)])
            lies[names.index(whence)] -= row[number]
            if whither in names:
                come[names.index(whither)] += row[number]
        lies = [one + other for one, other in zip(lies, come)]
        rows.append(tuple(row))
    return tuple(rows)


def lies_in(book, names, heaps):
    """How much of these heaps lies in the lot."""
    return sum(heap for station, heap in zip(book.stations, heaps) if station[0] in names)


def told_must_lie(book, ticks, names):
    """What must lie in a lot, word by word."""
    total = 0
    for puts, opens, _ in ticks:
        total += lies_in(book, names, puts)
        for number, (whence, whither, room, _) in enumerate(book.links):
            if whence in names and whither not in names and number in opens:
                total -= room
    return max(0, total)


def cut_books(seed, many):
    """Books with a cut, each with all its cuts."""
    pairs = []
    for book in some_books(random.Random(seed), many):
        cuts = [lot for lot in all_lots(book) if is_cut(book, lot)]
        if cuts:
            pairs.append((book, cuts))
    return pairs


class Moves(Case):

    def test_right_moves_and_near_ones(self):
        chance = random.Random(1)
        seen = {True: 0, False: 0}
        for book in some_books(chance, 250):
            ticks = some_weather(chance, book, chance.randint(0, 3))
            for near in (0.0, 0.05):
                moves = some_moves(chance, book, ticks, near)
                told = told_heaps(book, ticks, moves)
                right = isinstance(told, tuple)
                self.assertIs(is_moves(book, ticks, moves), right)
                if right:
                    self.same(moved(book, ticks, moves), told)
                else:
                    self.refused(BadMoves, told, moved, book, ticks, moves)
                seen[right] += 1
        self.assertGreater(min(seen.values()), 40)

    def test_what_the_rule_passes_can_be_moved(self):
        chance = random.Random(2)
        for book in some_books(chance, 100):
            ticks = some_weather(chance, book, 3)
            self.same(moved(book, ticks, passes_of(book, ticks)), heaps_of(book, ticks)[1:])

    def test_more_than_a_room_and_than_lies_there(self):
        for first, right in (((2, 0), True), ((0, 0), True), ((3, 0), False), ((2, 1), False), ((-1, 0), False)):
            self.assertIs(is_moves(ROW, TICKS, (first, (0, 0))), right)
        many = (((1, 0), (0, 1), (0, 0)), ((0, 0), (0,), (0, 0)))
        self.same([is_moves(ROW, many, ((2, 0), (0, 0))), is_moves(ROW, many, ((1, 0), (0, 0)))], [False, True])
        self.refused(BadMoves, 0, moved, ROW, many, ((2, 0), (0, 0)))

    def test_two_links_of_a_station_share_what_lies_there(self):
        book = Book("net 1 0 0\ngoal g\nstation a 0 3\nstation b 0 0\nlink a b 2 1\nlink a g 2 1")
        ticks = (((3, 0), (0, 1), (0, 0)),)
        for row, right in (((2, 1), True), ((1, 2), True), ((2, 2), False), ((0, 0), True)):
            self.assertIs(is_moves(book, ticks, (row,)), right)
        self.same(moved(book, ticks, ((1, 2),)), ((0, 1),))

    def test_over_shut_links(self):
        ticks = (TICKS[0], ((0, 0), (0,), (0, 0)))
        self.same([is_moves(ROW, ticks, ((1, 0), (0, 0))), is_moves(ROW, ticks, ((1, 0), (0, 1)))], [True, False])
        self.refused(BadMoves, 1, moved, ROW, ticks, ((1, 0), (0, 1)))

    def test_what_comes_does_not_go_on_at_the_same_tick(self):
        self.refused(BadMoves, 0, moved, ROW, TICKS, ((1, 1), (0, 0)))
        self.same(moved(ROW, TICKS, ((1, 0), (1, 1))), ((2, 1), (1, 1)))
        self.same(moved(ROW, TICKS, ((1, 0), (0, 1))), ((2, 1), (2, 0)))

    def test_what_is_put_in_can_go_at_the_same_tick(self):
        self.same(moved(ROW, TICKS, ((2, 0), (1, 1))), ((1, 2), (0, 2)))

    def test_other_lengths_and_kinds(self):
        right = ((2, 0), (1, 1))
        self.assertIs(is_moves(ROW, TICKS, right), True)
        for value in (right[:1], (*right, (0, 0)), list(right), (), *any_values()):
            self.assertIs(is_moves(ROW, TICKS, value), False)
            if not isinstance(value, tuple) or len(value) != 2:
                self.refused(BadMoves, None, moved, ROW, TICKS, value)
        for row in ([1, 1], (1,), (1, 1, 0), (True, 1), (1, True), ("1", 1), None, {1: 1}, (1, None)):
            self.refused(BadMoves, 1, moved, ROW, TICKS, (right[0], row))
            self.refused(BadMoves, 0, moved, ROW, TICKS, (row, row))
            self.assertIs(is_moves(ROW, TICKS, (right[0], row)), False)
        for row in ((False, 0), (0, False)):
            self.refused(BadMoves, 0, moved, ROW, TICKS, (row, right[1]))

    def test_the_first_tick_is_told(self):
        ticks = TICKS * 3
        for number in range(6):
            moves = tuple((9, 9) if at >= number else (0, 0) for at in range(6))
            self.refused(BadMoves, number, moved, ROW, ticks, moves)

    def test_no_ticks(self):
        self.same([is_moves(ROW, (), ()), moved(ROW, (), ()), is_moves(ROW, (), ((0, 0),))], [True, (), False])
        self.refused(BadMoves, None, moved, ROW, (), [])

    def test_ticks_have_to_be_a_weather(self):
        for ticks, number in (((TICKS[0], TICKS[0]), 1), ((((4, 0), (0, 1), (0, 0)),), 0), ([], None), (None, None)):
            for call in (is_moves, moved, must_lie):
                self.refused(BadTicks, number, call, ROW, ticks, None)


class Spoil(Case):

    def test_of_all_cuts(self):
        pairs = cut_books(3, 200)
        self.assertGreater(len(pairs), 60)
        for book, cuts in pairs:
            for cut in cuts:
                ticks = spoil(book, cut)
                self.same([first_bad(book, ticks), len(ticks)], [None, book.window])
                for at, (name, _, put) in enumerate(book.stations):
                    if name in cut:
                        self.assertEqual(sum(tick[0][at] for tick in ticks), put)
                for at, (whence, whither, _, times) in enumerate(book.links):
                    if whence in cut and whither not in cut:
                        self.assertEqual(sum(at in tick[1] for tick in ticks), times)
                self.assertIs(shows_spoil(book, cut, ticks), True)

    def test_all_weathers_that_spoil(self):
        chance = random.Random(4)
        seen = {True: 0, False: 0}
        for book, cuts in cut_books(5, 150):
            for cut in cuts:
                for _ in range(8):
                    ticks = some_weather(chance, book, 1)
                    right = self.told(book, cut, ticks)
                    self.assertIs(shows_spoil(book, cut, ticks), right)
                    seen[right] += 1
        self.assertGreater(min(seen.values()), 50)

    def told(self, book, cut, ticks):
        """Whether a window spoils, word by word."""
        for at, (name, _, put) in enumerate(book.stations):
            if name in cut and sum(tick[0][at] for tick in ticks) != put:
                return False
        for at, (whence, whither, _, times) in enumerate(book.links):
            if whence in cut and whither not in cut and sum(at in tick[1] for tick in ticks) != times:
                return False
        return True

    BOOK = Book("net 3 0 1\ngoal g\nstation a 0 4\nstation b 0 1\nlink a b 1 1\nlink b g 1 2\nlink b a 2 1\nlink a g 1 0")
    RIGHT = (((1, 0), (0, 1), (0, 1, 0, 0)), ((0, 0), (2,), (1, 1, 1, 1)), ((3, 1), (1,), (0, 0, 0, 0)))

    def near(self, number, part, value):
        """The right window, with another value as this part of this tick."""
        tick = list(self.RIGHT[number])
        tick[part] = value
        return (*self.RIGHT[:number], tuple(tick), *self.RIGHT[number + 1:])

    def test_near_ones(self):
        both, one = ("a", "b"), ("a",)
        self.same([excess(self.BOOK, both), excess(self.BOOK, one)], [3, 3])
        shows = [(shows_spoil(self.BOOK, cut, self.RIGHT)) for cut in (both, one)]
        self.same(shows, [True, True])
        for value, told in (
            (self.near(2, 0, (2, 1)), (False, False)),
            (self.near(2, 0, (3, 0)), (False, True)),
            (self.near(0, 0, (0, 0)), (False, False)),
            (self.near(1, 1, (0, 2)), (True, False)),
            (self.near(1, 1, (1, 2)), (False, True)),
            (self.near(1, 1, (2, 3)), (False, False)),
            (self.near(0, 1, (0, 1, 2)), (True, True)),
            (self.near(0, 2, (1, 1, 1, 1)), (True, True)),
            (self.near(2, 0, (4, 1)), (False, False)),
            (self.near(2, 1, ()), (False, False)),
            (self.near(2, 1, (0, 1)), (True, False)),
        ):
            self.same((shows_spoil(self.BOOK, both, value), shows_spoil(self.BOOK, one, value)), told)

    def test_other_lengths_and_values(self):
        cut = ("a", "b")
        idle = ((0, 0), (), (0, 0, 0, 0))
        for value in [
            self.RIGHT[:2], self.RIGHT[1:], (*self.RIGHT, idle), self.RIGHT * 2, list(self.RIGHT), (),
            (list(self.RIGHT[0]), *self.RIGHT[1:]), (None,) * 3, self.near(0, 0, (True, 0)), self.near(0, 1, (False, 1)),
            self.near(0, 2, (2, 1, 0, 0)), self.RIGHT * 4000, *any_values(),
        ]:
            self.assertIs(shows_spoil(self.BOOK, cut, value), False)

    def test_a_window_that_keeps_the_book_no_longer_beside_the_cut(self):
        book = Book("net 1 0 0\ngoal g\nstation a 0 1\nstation b 0 0\nlink b g 1 1")
        self.assertIs(shows_spoil(book, ("a",), (((1, 0), (0,), (0,)),)), True)
        self.assertIs(shows_spoil(book, ("a",), (((1, 1), (0,), (0,)),)), False)
        self.assertIs(shows_spoil(book, ("a",), (((1, 0), (), (0,)),)), False)

    def test_no_cuts(self):
        for book in (Book(TEXT), self.BOOK):
            for value in [(), ["a"], ("b", "a"), ("b",), ("g",), "a", ("a", "a"), *any_values()]:
                for call in (spoil, lambda book, cut: shows_spoil(book, cut, None)):
                    with self.assertRaises(BadCut) as caught:
                        call(book, value)
                    self.assertIs(caught.exception.value, value)
        for book in some_books(random.Random(6), 40):
            for lot in all_lots(book):
                if not is_cut(book, lot):
                    self.refused(BadCut, lot, spoil, book, lot)

    def test_it_grows_with_each_window_whatever_is_done(self):
        for book, cuts in cut_books(7, 80):
            for cut in cuts:
                much = excess(book, cut)
                for many in (1, 3, 6):
                    self.piled(book, cut, spoil(book, cut) * many, much * many)

    def piled(self, book, cut, ticks, much):
        """So much at least lies in the cut behind these ticks, by the rule, by greedy moves, by the best ones."""
        self.assertGreaterEqual(must_lie(book, ticks, cut), much)
        self.assertGreaterEqual(lies_in(book, cut, heaps_of(book, ticks)[-1]), much)
        self.assertGreaterEqual(lies_in(book, cut, moved(book, ticks, greedy_moves(book, ticks))[-1]), much)
        best = most_home(book, ticks)[1]
        self.assertGreaterEqual(lies_in(book, cut, moved(book, ticks, best)[-1]), much)


class MustLie(Case):

    def test_beside_its_sum(self):
        chance = random.Random(8)
        zeros = 0
        for book in some_books(chance, 150):
            ticks = some_weather(chance, book, chance.randint(0, 3))[:chance.randint(0, 9)]
            for lot in [(), *all_lots(book)]:
                told = told_must_lie(book, ticks, lot)
                self.same(must_lie(book, ticks, lot), told)
                zeros += told == 0
                for moves in (some_moves(chance, book, ticks), greedy_moves(book, ticks), passes_of(book, ticks)):
                    behind = (*[(0,) * len(book)], *moved(book, ticks, moves))[-1]
                    self.assertGreaterEqual(lies_in(book, lot, behind), told)
        self.assertGreater(zeros, 50)

    def test_never_below_0(self):
        self.same(must_lie(ROW, TICKS, ("b",)), 0)
        self.same([must_lie(ROW, TICKS, ("a",)), must_lie(ROW, TICKS, ("a", "b")), must_lie(ROW, TICKS, ())], [0, 1, 0])
        self.same(must_lie(ROW, (), ("a",)), 0)

    def test_links_inside_do_not_count(self):
        book = Book("net 1 0 0\ngoal g\nstation a 0 5\nstation b 0 0\nlink a b 3 1\nlink b a 3 1\nlink b g 1 1")
        ticks = (((5, 0), (0, 1, 2), (0, 0, 0)),)
        told = [must_lie(book, ticks, lot) for lot in (("a",), ("b",), ("a", "b"))]
        self.same(told, [2, 0, 4])

    def test_bad_lots_behind_bad_ticks(self):
        for value in [["a"], ("b", "a"), ("g",), ("a", "a"), "a", *[value for value in any_values() if value != ()]]:
            with self.assertRaises(BadLot) as caught:
                must_lie(ROW, TICKS, value)
            self.assertIs(caught.exception.value, value)
            self.refused(BadTicks, 0, must_lie, ROW, (None,), value)

    def test_moves_behind_bad_ticks(self):
        wrong = some_ticks(random.Random(9), ROW, 40)
        number = first_bad(ROW, wrong)
        self.assertIsNotNone(number)
        for call in (is_moves, moved):
            self.refused(BadTicks, number, call, ROW, wrong, None)


class Calm(Case):

    def test_calm_and_rough_windows(self):
        for book, cuts in cut_books(10, 60):
            for cut in cuts:
                lies = any(station[2] for station in book.stations if station[0] in cut)
                self.assertTrue(lies)
                self.assertIs(shows_spoil(book, cut, rough(book)), True)
                self.assertIs(shows_spoil(book, cut, calm(book)), False)
                self.assertIs(has_flow(book), False)


if __name__ == "__main__":
    unittest.main()
