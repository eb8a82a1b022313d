import itertools
import random
import unittest

from downhillnet.best import home_lots, most_home, shows_home_lots, shows_most_home
from downhillnet.books import Book
from downhillnet.bounds import lot_bound
from downhillnet.errors import BadTicks, TooMany
from downhillnet.flows import has_flow
from downhillnet.runs import passes_of, played
from downhillnet.spoil import is_moves, moved
from downhillnet.weather import calm, finished, rough
from tests.test_spoil import greedy_moves, some_moves
from tests.tools import TEXT, Case, all_lots, any_values, some_books, some_weather

ROW = Book("net 2 0 0\ngoal home\nstation a 0 3\nstation b 0 0\nlink a b 1 2\nlink b home 1 1")


def told_home(book, moves):
    """How many packets these moves bring home."""
    return sum(many for row in moves for link, many in zip(book.links, row) if link[1] == book.goal)


def told_worth(book, ticks, lots):
    """The worth of lots, one for each moment, word by word."""
    total = 0
    for t, (puts, opens, _) in enumerate(ticks):
        for station, put in zip(book.stations, puts):
            if station[0] not in lots[t]:
                total += put
        for number in opens:
            whence, whither, room, _ = book.links[number]
            if whence in lots[t] and (whither == book.goal or whither not in lots[t + 1]):
                total += room
    return total


def all_rows_of_lots(book, many):
    """All tuples of so many lots, each a part of the next one: for each station from when on it stands in them."""
    names = sorted(station[0] for station in book.stations)
    for times in itertools.product(range(many + 1), repeat=len(names)):
        yield tuple(tuple(name for name, time in zip(names, times) if time <= t) for t in range(many))


def all_moves(book, ticks):
    """All moves for a few ticks of a small book."""
    rows = [()]
    for t in range(len(ticks)):
        choices = itertools.product(*[
            range((link[2] if at in ticks[t][1] else 0) + 1) for at, link in enumerate(book.links)
        ])
        choices = list(choices)
        rows = [
            longer for row in rows for choice in choices
            if is_moves(book, ticks[:t + 1], longer := (*row, choice))
        ]
    return rows


def cases(seed, many, most):
    """Books with short weathers, some with an unfinished window, some without ticks."""
    chance = random.Random(seed)
    pairs = []
    for book in some_books(chance, many):
        ticks = some_weather(chance, book, chance.randint(0, 4))
        pairs.append((book, ticks[:chance.randint(0, most)]))
    return pairs


class MostHome(Case):

    def right(self, book, ticks):
        """What is told is as it says, and both are worth the same."""
        told = most_home(book, ticks)
        many, moves = told
        self.same((told.__class__, many.__class__, moves.__class__, len(moves)), (tuple, int, tuple, len(ticks)))
        self.assertIs(is_moves(book, ticks, moves), True)
        self.assertEqual(told_home(book, moves), many)
        lots = home_lots(book, ticks)
        self.assertEqual(len(lots), len(ticks) + 1)
        for lot, later in zip(lots, lots[1:]):
            self.assertLessEqual(set(lot), set(later))
        for lot in lots:
            self.assertIn(lot, [(), *all_lots(book)] if len(book) < 5 else [tuple(sorted(set(lot)))])
        self.assertEqual(told_worth(book, ticks, lots), many)
        self.assertIs(shows_most_home(book, ticks, told), True)
        self.assertIs(shows_home_lots(book, ticks, lots), True)
        return many

    def test_beside_all_rows_of_lots(self):
        seen = set()
        for book, ticks in cases(1, 250, 5):
            if (len(ticks) + 2) ** len(book) > 400:
                continue
            many = self.right(book, ticks)
            worths = {lots: told_worth(book, ticks, lots) for lots in all_rows_of_lots(book, len(ticks) + 1)}
            self.assertEqual(min(worths.values()), many)
            for lots, worth in worths.items():
                self.assertIs(shows_home_lots(book, ticks, lots), worth == many)
            seen.add(many)
        self.assertGreater(len(seen), 8)

    def test_beside_all_moves(self):
        seen = 0
        for book, ticks in cases(2, 300, 3):
            ways = 1
            for tick in ticks:
                for number in tick[1]:
                    ways *= book.links[number][2] + 1
            if ways > 400:
                continue
            best = max(told_home(book, row) for row in all_moves(book, ticks))
            self.assertEqual(self.right(book, ticks), best)
            for row in all_moves(book, ticks):
                many = told_home(book, row)
                self.assertIs(shows_most_home(book, ticks, (many, row)), many == best)
            seen += best > 0
        self.assertGreater(seen, 20)

    def test_longer_weathers(self):
        for book, ticks in cases(3, 120, 16):
            many = self.right(book, ticks)
            for moves in (greedy_moves(book, ticks), some_moves(random.Random(4), book, ticks), passes_of(book, ticks)):
                self.assertLessEqual(told_home(book, moves), many)

    def test_an_unfinished_window(self):
        tick = ((3, 0), (0,), (0, 0))
        self.same([most_home(ROW, (tick,)), home_lots(ROW, ())], [(0, ((0, 0),)), ((),)])
        self.same(self.right(ROW, (tick,)), 0)
        self.same(self.right(ROW, (tick, ((0, 0), (0, 1), (0, 0)))), 1)

    def test_without_links_and_without_ticks(self):
        bare = Book("net 2 0 0\ngoal g\nstation b 0 3\nstation a 0 1")
        self.same([most_home(bare, ()), most_home(bare, rough(bare))], [(0, ()), (0, ((), ()))])
        self.right(bare, rough(bare))
        self.right(bare, ())
        for lots in all_rows_of_lots(bare, 3):
            right = lots[0] == ("a", "b")
            self.assertIs(shows_home_lots(bare, rough(bare), lots), right)
        for lot in ((), ("a",), ("b",), ("a", "b")):
            self.assertIs(shows_home_lots(bare, (), (lot,)), True)

    def test_what_comes_at_a_tick_goes_on_at_the_next_one(self):
        book = Book("net 1 0 0\ngoal g\nstation a 0 9\nstation b 0 0\nstation c 0 0\nlink a b 9 0\nlink b c 9 0\nlink c g 9 0")
        first, idle = ((9, 0, 0), (0, 1, 2), (0, 0, 0)), ((0, 0, 0), (0, 1, 2), (0, 0, 0))
        told = [most_home(book, (first, *[idle] * many))[0] for many in range(4)]
        self.same(told, [0, 0, 9, 9])

    def test_what_stays_can_go_later(self):
        book = Book("net 1 0 0\ngoal g\nstation a 0 9\nlink a g 2 0")
        first, idle, shut = ((9,), (0,), (0,)), ((0,), (0,), (0,)), ((0,), (), (0,))
        told = [most_home(book, ticks)[0] for ticks in ((first,), (first, idle), (first, shut, idle), (first, *[idle] * 9))]
        self.same(told, [2, 4, 4, 9])

    def test_a_wait_that_pays(self):
        # The link from a to b opens once; what it passes has to wait at b.
        book = Book("net 3 0 0\ngoal g\nstation a 0 2\nstation b 0 0\nlink a b 2 1\nlink b g 1 0")
        puts = ((2, 0), (0, 0), (0, 0))
        for opens, many in ((((0,), (1,), (1,)), 2), (((0, 1), (), (1,)), 1), (((1,), (0, 1), (1,)), 1)):
            ticks = tuple((put, row, (0, 0)) for put, row in zip(puts, opens))
            self.same(self.right(book, ticks), many)

    def test_the_greatest_ones(self):
        names = "abcdefghijklmnopqrst"
        lines = ["net 1 0 0", "goal home", *[f"station {name} 0 1000000" for name in names]]
        pairs = [*zip(names, names[1:]), *zip(names[1:], names), *zip(names, names[2:]), ("t", "home")]
        lines += [f"link {one} {other} {100 + 7 * at} 1" for at, (one, other) in enumerate(pairs)]
        book = Book("\n".join(lines))
        puts = tuple(10 ** at for at in range(5)) * 4
        ticks = tuple((puts, tuple(range(len(pairs))), (0,) * len(pairs)) for _ in range(60))
        self.same(self.right(book, ticks), 60 * book.links[-1][2])

    def test_it_stays_near_the_rule(self):
        seen = 0
        for book, ticks in cases(5, 150, 16):
            if has_flow(book):
                bound = lot_bound(book, len(book)) + book.window * sum(link[2] for link in book.links)
                bound += sum(station[2] for station in book.stations)
                rule = played(book, ticks)[1]
                self.assertLessEqual(rule, most_home(book, ticks)[0])
                self.assertLessEqual(most_home(book, ticks)[0], rule + bound)
                seen += 1
        self.assertGreater(seen, 25)


class Shown(Case):
    TICKS = (
        ((0, 0), (0,), (0, 0)), ((3, 0), (0, 1), (0, 0)), ((0, 0), (0, 1), (0, 0)), ((0, 0), (0, 1), (0, 0)),
    )
    RIGHT = (2, ((0, 0), (1, 0), (1, 1), (0, 1)))

    def test_near_moves(self):
        self.same(most_home(ROW, self.TICKS)[0], 2)
        self.assertIs(shows_most_home(ROW, self.TICKS, self.RIGHT), True)
        self.assertIs(shows_most_home(ROW, self.TICKS, (2, ((0, 0), (1, 0), (1, 1), (1, 1)))), True)
        moves = self.RIGHT[1]
        for value in [
            (1, moves), (3, moves), (2, moves[:3]), (2, (*moves, (0, 0))), (2, ((0, 0), (1, 0), (1, 1), (0, 0))),
            (1, ((0, 0), (1, 0), (1, 1), (0, 0))), (2, ((1, 0), (1, 0), (1, 1), (0, 1))), (2, list(moves)), [2, moves],
            (2, (*moves[:3], [0, 1])), (2, (*moves[:3], (0, True))), (2, (*moves[:3], (False, 1))), (2,), (2, moves, ()),
            (moves, 2), ("2", moves), (None, moves), (2, None), moves, 2, *any_values(),
        ]:
            self.assertIs(shows_most_home(ROW, self.TICKS, value), False)

    def test_true_is_no_number(self):
        book = Book("net 1 0 0\ngoal g\nstation a 0 1\nlink a g 1 1")
        ticks = (((1,), (0,), (0,)),)
        self.assertIs(shows_most_home(book, ticks, (1, ((1,),))), True)
        self.assertIs(shows_most_home(book, ticks, (True, ((1,),))), False)
        self.assertIs(shows_most_home(book, (), (0, ())), True)
        self.assertIs(shows_most_home(book, (), (False, ())), False)

    def test_near_lots(self):
        lots = home_lots(ROW, self.TICKS)
        self.same(told_worth(ROW, self.TICKS, lots), 2)
        both = ("a", "b")
        for value in [
            lots[:4], (*lots, both), lots[1:], list(lots), (*lots[:4], ["a", "b"]), (*lots[:4], ("b", "a")),
            (*lots[:4], ("a", "a", "b")), (*lots[:4], ("a", "b", "home")), (both, (), (), (), ()), (both, *[("a",)] * 4),
            (*lots[:4], None), (*lots[:4], (1,)), (), None, (None,) * 5, "abcde", *any_values(),
        ]:
            self.assertIs(shows_home_lots(ROW, self.TICKS, value), False)

    def test_lots_that_do_not_grow(self):
        # Nothing is put in, and all links are shut: by their sums alone all lots would do.
        book = Book("net 1 0 0\ngoal g\nstation a 0 1\nstation b 0 0\nlink a g 1 0\nlink b a 1 0")
        lots = [(), *all_lots(book)]
        for many in (0, 1, 2, 3):
            ticks = (((0, 0), (), (0, 0)),) * many
            right = list(all_rows_of_lots(book, many + 1))
            for row in itertools.product(lots, repeat=many + 1):
                self.assertEqual(told_worth(book, ticks, row), 0)
                grows = all(set(lot) <= set(later) for lot, later in zip(row, row[1:]))
                self.assertIs(shows_home_lots(book, ticks, row), grows)
                self.assertEqual(grows, row in right)

    def test_lots_that_shrink_without_cost(self):
        book = Book("net 1 0 0\ngoal g\nstation a 0 1\nlink a g 1 0")
        ticks = (((1,), (), (0,)), ((0,), (0,), (0,)))
        self.same(most_home(book, ticks)[0], 1)
        self.same([told_worth(book, ticks, row) for row in ((("a",), (), ()), (("a",), ("a",), ("a",)))], [0, 1])
        shown = [shows_home_lots(book, ticks, row) for row in ((("a",), (), ()), (("a",),) * 3, ((),) * 3)]
        self.same(shown, [False, True, True])


class Refused(Case):

    def calls(self):
        return (
            most_home, home_lots, lambda book, ticks: shows_most_home(book, ticks, None),
            lambda book, ticks: shows_home_lots(book, ticks, None),
        )

    def test_bad_ticks_ahead_of_too_many(self):
        book = Book(TEXT)
        idle = ((0, 0), (0, 1, 2), (0, 0, 0))
        for call in self.calls():
            for value in any_values():
                if not isinstance(value, tuple):
                    self.refused(BadTicks, None, call, book, value)
            self.refused(BadTicks, 61, call, book, (*[idle] * 61, None))
            self.refused(BadTicks, 0, call, book, (None,) * 61)
            self.refused(BadTicks, None, call, book, (idle,) * 10001)
            self.refused(BadTicks, 100, call, book, (*[idle] * 100, ((4, 0), (), (0, 0, 0))))

    def test_sixty_and_one_more(self):
        book = Book(TEXT)
        ticks = (calm(book) * 20)
        for call in self.calls():
            call(book, ticks[:60])
            for many in (61, 64, 80):
                self.refused(TooMany, 60, call, book, ticks[:many])
        self.same(len(finished(book, ticks[:60])), 60)

    def test_nothing_changes(self):
        book = Book(TEXT)
        ticks = rough(book) * 3
        told = most_home(book, ticks), home_lots(book, ticks), moved(book, ticks, most_home(book, ticks)[1])
        again = most_home(book, ticks), home_lots(book, ticks), moved(book, ticks, most_home(book, ticks)[1])
        self.same(told, again)
        self.same(ticks, rough(Book(TEXT)) * 3)


if __name__ == "__main__":
    unittest.main()
