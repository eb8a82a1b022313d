"""What is told for all books and all weathers, of several sections beside one another."""

import random
import unittest

from downhillnet.best import home_lots, most_home, shows_home_lots
from downhillnet.books import Book
from downhillnet.bounds import lot_bound
from downhillnet.flows import excess, has_flow, is_cut, is_flow, judged, spare, worst_excess
from downhillnet.home import home_at, home_ticks, homing, ways
from downhillnet.lesser import above_at
from downhillnet.needs import least_open, least_window, needful, scale, worth
from downhillnet.nets import behind, part, parts_of, renamed, together, with_put
from downhillnet.runs import Run, heaps_of, most_in, passes_of, played, run_from
from downhillnet.spoil import is_moves, moved, must_lie, spoil
from downhillnet.weather import calm, first_bad, rough
from downhillnet.worst import standings_many, worst_lot, worst_weather
from tests.test_spoil import greedy_moves, lies_in, some_moves
from tests.tools import Case, all_lots, some_books, some_weather


def some_weathers(chance, book, many):
    """Weathers of so many windows: calm, rough and drawn ones, and one of all kinds in turn."""
    kinds = [calm(book), rough(book), some_weather(chance, book, 1)]
    rows = [kind * many for kind in kinds[:2]] + [some_weather(chance, book, many)]
    mixed = tuple(tick for _ in range(many) for tick in chance.choice(kinds))
    return [*rows, mixed]


def moves_of_all_kinds(chance, book, ticks):
    """Moves by the rule, greedy ones, drawn ones, none, and the best ones."""
    rows = [passes_of(book, ticks), greedy_moves(book, ticks), some_moves(chance, book, ticks)]
    rows.append(((0,) * len(book.links),) * len(ticks))
    return rows + [most_home(book, ticks)[1]] if len(ticks) <= 60 else rows


class Main(Case):

    def test_a_flow_or_a_cut(self):
        chance = random.Random(1)
        kinds = {"flow": 0, "cut": 0}
        for book in some_books(chance, 150):
            word, shown = judged(book)
            self.same([is_flow(book, shown), is_cut(book, shown)], [word == "flow", word == "cut"])
            cuts = [lot for lot in all_lots(book) if is_cut(book, lot)]
            self.assertIs(word == "cut", len(cuts) > 0)
            kinds[word] += 1
            if word == "flow":
                self.borne(chance, book)
            for cut in cuts:
                self.not_borne(chance, book, cut)
        self.assertGreater(min(kinds.values()), 25)

    def borne(self, chance, book):
        """In all weathers no lot holds more than its bound at the beginning of a window, nor M more at any tick."""
        more = sum(book.window * link[2] for link in book.links) + sum(station[2] for station in book.stations)
        for ticks in some_weathers(chance, book, 25):
            self.assertIsNone(first_bad(book, ticks))
            heaps = heaps_of(book, ticks)
            for lot in all_lots(book):
                bound = lot_bound(book, len(lot))
                lies = [lies_in(book, lot, row) for row in heaps]
                self.assertLessEqual(max(lies[::book.window]), bound)
                self.assertLessEqual(max(lies), bound + more)
                self.assertEqual(most_in(book, ticks, lot), max(lies))
            self.assertIsNone(above_at("whole", book, ticks))

    def not_borne(self, chance, book, cut):
        """Behind each spoiling window one excess more lies in the cut, whatever is moved."""
        much = excess(book, cut)
        self.assertGreater(much, 0)
        window = spoil(book, cut)
        for many in (1, 2, 7):
            ticks = window * many
            self.assertGreaterEqual(must_lie(book, ticks, cut), many * much)
            for moves in moves_of_all_kinds(chance, book, ticks):
                heaps = moved(book, ticks, moves)
                for done in range(1, many + 1):
                    self.assertGreaterEqual(lies_in(book, cut, heaps[done * book.window - 1]), done * much)

    def test_at_least_what_must_lie(self):
        chance = random.Random(2)
        for book in some_books(chance, 80):
            for ticks in some_weathers(chance, book, 3):
                for moves in moves_of_all_kinds(chance, book, ticks):
                    self.assertIs(is_moves(book, ticks, moves), True)
                    heaps = moved(book, ticks, moves)[-1]
                    for lot in all_lots(book):
                        self.assertGreaterEqual(lies_in(book, lot, heaps), must_lie(book, ticks, lot))

    def test_the_worst_is_within_the_bound_and_comes_about(self):
        for text in (
            "net 2 0 0\ngoal g\nstation a 0 1\nlink a g 1 1",
            "net 1 0 1\ngoal g\nstation a 0 1\nstation b 0 0\nlink a b 1 1\nlink b g 1 1",
            "net 2 1 0\ngoal g\nstation a 1 1\nstation b 0 0\nlink a b 1 1\nlink b g 2 1",
        ):
            book = Book(text)
            self.assertGreater(standings_many(book, 10000), 1)
            for lot in all_lots(book):
                most = worst_lot(book, lot, 10000)
                ticks = worst_weather(book, lot, 10000)
                self.assertEqual(lies_in(book, lot, played(book, ticks)[0]), most)
                self.assertLessEqual(most, lot_bound(book, len(lot)) + 2 * book.window * len(book.links) + 2)

    def test_the_best_is_the_worth_of_lots(self):
        chance = random.Random(3)
        for book in some_books(chance, 60):
            for ticks in some_weathers(chance, book, 4):
                many, moves = most_home(book, ticks)
                self.assertIs(shows_home_lots(book, ticks, home_lots(book, ticks)), True)
                lies = sum(moved(book, ticks, moves)[-1])
                self.assertEqual(many + lies, sum(sum(tick[0]) for tick in ticks))
                self.assertLessEqual(played(book, ticks)[1], many)
                self.assertGreaterEqual(lies, max(must_lie(book, ticks, lot) for lot in all_lots(book)))


class Exactly(Case):

    def test_what_is_needed_beside_flows(self):
        for book in some_books(random.Random(4), 200):
            there = has_flow(book)
            found = scale(book)
            self.assertIs(there, found is None or found[0] >= found[1])
            self.assertIs(there, worst_excess(book) <= 0)
            needed = needful(book)
            for number, (_, _, room, _) in enumerate(book.links):
                least = least_open(book, number)
                self.assertIs(number in needed, least != 0)
                if there:
                    self.assertLessEqual(least, book.links[number][3])
                    for name, _, _ in book.stations:
                        self.assertTrue((much := worth(book, number, name)) is None or 0 <= much <= room)
            if there:
                self.assertLessEqual(least_window(book), book.window)

    def test_as_much_as_is_spare_and_not_one_more(self):
        for book in some_books(random.Random(5), 100):
            if has_flow(book):
                for name, _, put in book.stations:
                    much = spare(book, name)
                    told = [has_flow(with_put(book, name, put + more)) for more in (much, much + 1)]
                    self.same(told, [True, False])

    def test_nets_out_of_nets(self):
        for book in some_books(random.Random(6), 100):
            parts = [part(book, names) for names in parts_of(book)]
            whole = parts[0]
            for other in parts[1:]:
                whole = together(whole, other)
            self.same(sorted(whole.stations), sorted(book.stations))
            self.same(sorted(whole.links), sorted(book.links))
            self.assertIs(has_flow(whole), all(has_flow(other) for other in parts))
            door = Book(f"net {book.window} {book.margin} {book.late}\ngoal zz\nstation g 0 0\nlink g zz 1000 {book.window}")
            row = behind(book, door)
            self.assertIs(has_flow(row), has_flow(book) and has_flow(
                with_put(door, "g", sum(station[2] for station in book.stations))))
            self.same(renamed(row, "g", "h").goal, "zz")


class Home(Case):

    def test_all_is_home_in_time(self):
        chance = random.Random(7)
        seen = 0
        for book in some_books(chance, 150):
            if None in ways(book):
                continue
            home = homing(book)
            run = Run(home)
            for tick in some_weather(chance, home, 2):
                run.go_on(tick)
            ticks = home_ticks(home, run.heaps)
            if ticks > 1500:
                continue
            self.assertEqual(sum(run.heaps) == 0, ticks == 0)
            quiet = [((0,) * len(home), *tick[1:]) for tick in some_weather(chance, home, ticks // home.window + 1)]
            for tick in quiet[:ticks]:
                run.go_on(tick)
            self.same(run.heaps, (0,) * len(home))
            at = home_at(home, run.weather)
            self.assertTrue(at is not None and at <= run.tick)
            self.same(run_from(home, run.heaps).heaps, run.heaps)
            seen += 1
        self.assertGreater(seen, 20)


if __name__ == "__main__":
    unittest.main()
