import itertools
import random
import unittest

from downhillnet.books import Book
from downhillnet.errors import BadLot, BadNumber, TooMany
from downhillnet.runs import heaps_of, played
from downhillnet.weather import first_bad
from downhillnet.worst import shows_worst_weather, standings_many, worst_lot, worst_weather
from tests.tools import TEXT, Case, all_lots, any_values, told_tick

SMALL = [
    "net 1 0 0\ngoal g\nstation a 0 0",
    "net 1 0 0\ngoal g\nstation a 0 2\nlink a g 2 1",
    "net 1 2 0\ngoal g\nstation a 0 2\nlink a g 2 1",
    "net 1 2 1\ngoal g\nstation a 1 2\nlink a g 2 1",
    "net 2 0 0\ngoal g\nstation a 0 1\nlink a g 1 1",
    "net 2 0 1\ngoal g\nstation a 0 2\nlink a g 2 1",
    "net 3 0 0\ngoal g\nstation a 0 2\nlink a g 1 2",
    "net 3 1 1\ngoal g\nstation a 0 1\nlink a g 1 1",
    "net 1 0 1\ngoal g\nstation a 0 1\nstation b 0 0\nlink a b 1 1\nlink b g 1 1",
    "net 1 1 1\ngoal g\nstation b 2 1\nstation a 0 0\nlink b a 2 1\nlink a g 1 1",
    "net 2 0 0\ngoal g\nstation b 0 0\nstation a 0 1\nlink a b 1 1\nlink b g 1 1",
    "net 2 0 1\ngoal g\nstation a 0 1\nstation b 0 0\nlink a b 2 1\nlink b g 1 1",
    "net 2 0 0\ngoal g\nstation a 0 1\nstation b 0 1\nlink a b 1 1\nlink b g 2 1\nlink b a 1 0",
    "net 1 0 1\ngoal g\nstation a 0 1\nstation b 0 1\nlink a b 1 0\nlink b a 1 1\nlink a g 2 1",
    "net 2 0 1\ngoal g\nstation b 1 0\nstation a 0 1\nlink a b 1 0\nlink b a 1 0\nlink a g 1 1\nlink b g 2 1",
    "net 1 0 0\ngoal g\nstation a 0 1\nstation b 0 0\nlink a b 1 1\nlink b a 1 1\nlink b g 1 1\nlink a g 1 0",
    "net 1 1 0\ngoal g\nstation a 0 1\nstation b 0 0\nlink a g 1 1",
]
CUTS = [
    "net 1 0 0\ngoal g\nstation a 0 1",
    "net 2 0 1\ngoal g\nstation a 0 2\nlink a g 1 1",
    "net 2 0 0\ngoal g\nstation a 0 1\nstation b 0 1\nlink a b 1 1\nlink b g 1 1",
    "net 1 0 1\ngoal g\nstation a 0 1\nstation b 0 1\nlink a b 2 1\nlink b a 2 1\nlink b g 1 1",
]


def told_ticks(book):
    """All ticks with at most the puts of the book."""
    many = len(book.links)
    puts = itertools.product(*[range(put + 1) for _, _, put in book.stations])
    opens = [lot for size in range(many + 1) for lot in itertools.combinations(range(many), size)]
    ages = itertools.product(range(book.late + 1), repeat=many)
    return list(itertools.product(puts, opens, ages))


def told_counts(book, number, counts, tick):
    """What was put in, and which links were open, in the window behind a tick; None if the tick cannot come."""
    puts, opens = counts
    puts = tuple(one + other for one, other in zip(puts, tick[0]))
    opens = tuple(times + (at in tick[1]) for at, times in enumerate(opens))
    if any(put > station[2] for put, station in zip(puts, book.stations)):
        return None
    if any(times + book.window - number - 1 < link[3] for times, link in zip(opens, book.links)):
        return None
    return puts, opens


def told_standings(book, most):
    """All standings, with the fewest ticks behind which they come, word by word; None if they are more than most."""
    names = [station[0] for station in book.stations]
    ticks = told_ticks(book)
    none = ((0,) * len(book), (0,) * len(book.links))
    first = (((0,) * len(book),) * (book.late + 1), 0, none)
    found = {first: 0}
    rows = [first]
    for standing in rows:
        lay, number, counts = standing
        for tick in ticks:
            behind = told_counts(book, number, counts, tick)
            if behind is None:
                continue
            heaps = told_tick(book, [dict(zip(names, row)) for row in lay], tick)[1]
            now = (number + 1) % book.window
            lies = (*lay, tuple(heaps[name] for name in names))[1:]
            other = (lies, now, behind if now else none)
            if other not in found:
                found[other] = found[standing] + 1
                rows.append(other)
                if len(rows) > most:
                    return None
    return found


def lies_in(book, names, heaps):
    """How many packets lie in the lot."""
    return sum(heap for station, heap in zip(book.stations, heaps) if station[0] in names)


def chosen_books(seed, many):
    """Books of one or two stations with few ticks."""
    chance = random.Random(seed)
    books = []
    while len(books) < many:
        window, late = chance.randint(1, 3), chance.randint(0, 1)
        names = chance.choice([["a"], ["a", "b"], ["b", "a"]])
        lines = [f"net {window} {chance.choice([0, 0, 1, 2])} {late}", "goal g"]
        lines += [f"station {name} {chance.choice([0, 0, 1, 2])} {chance.randint(0, 2)}" for name in names]
        pairs = [(one, other) for one in names for other in [*names, "g"] if one != other]
        for one, other in chance.sample(pairs, chance.randint(1, len(pairs))):
            lines.append(f"link {one} {other} {chance.randint(1, 2)} {chance.randint(0, window)}")
        book = Book("\n".join(lines))
        if len(told_ticks(book)) <= 100:
            books.append(book)
    return books


class Standings(Case):

    def test_beside_a_going_through_all(self):
        for text in SMALL:
            self.right(Book(text), told_standings(Book(text), 2000))

    def test_beside_a_going_through_all_of_more_books(self):
        seen = 0
        for book in chosen_books(1, 60):
            found = told_standings(book, 150)
            if found is None:
                self.refused(TooMany, 150, standings_many, book, 150)
            else:
                self.right(book, found)
                seen += 1
        self.assertGreater(seen, 15)

    def right(self, book, found):
        """All that is told of the standings of a book is as they are told word by word."""
        many = len(found)
        self.same([standings_many(book, many), standings_many(book, many + 1)], [many, many])
        self.same(standings_many(book, 10000), many)
        if many > 1:
            self.refused(TooMany, many - 1, standings_many, book, many - 1)
            self.refused(TooMany, 1, standings_many, book, 1)
        for names in all_lots(book):
            sums = {standing: lies_in(book, names, standing[0][-1]) for standing in found}
            most = max(sums.values())
            least = min(found[standing] for standing in found if sums[standing] == most)
            self.same(worst_lot(book, names, many), most)
            ticks = worst_weather(book, names, many)
            self.same([first_bad(book, ticks), len(ticks)], [None, least])
            self.assertEqual(lies_in(book, names, played(book, ticks)[0]), most)
            self.assertIs(shows_worst_weather(book, names, many, ticks), True)
            if many > 1:
                for call, more in ((worst_lot, ()), (worst_weather, ()), (shows_worst_weather, (ticks,))):
                    self.refused(TooMany, many - 1, call, book, names, many - 1, *more)

    def test_one_standing(self):
        book = Book(SMALL[0])
        self.same([standings_many(book, 1), worst_lot(book, ("a",), 1), worst_weather(book, ("a",), 1)], [1, 0, ()])
        self.same(standings_many(Book(SMALL[1]), 1), 1)

    def test_what_is_counted_in_a_window_makes_another_standing(self):
        # Open at one tick, at two, or at none of the first two ticks; nothing else can be told apart.
        book = Book("net 3 0 0\ngoal g\nstation a 0 0\nlink a g 1 0")
        self.same(standings_many(book, 100), 1 + 2 + 3)
        # 0, 1 or 2 packets at the first tick of two, all home at once.
        book = Book("net 2 0 0\ngoal g\nstation a 0 2\nlink a g 2 2")
        self.same(standings_many(book, 100), 1 + 3)

    def test_what_lay_there_ahead_makes_another_standing(self):
        # One packet comes each tick, or none, and stays for one tick: as many rows of 0 and 1 as there are.
        book = Book("net 1 1 {}\ngoal g\nstation a 0 1\nlink a g 2 1".format(0))
        self.same(standings_many(book, 100), 2)
        for late in (0, 1, 2, 3):
            text = f"net 1 0 {late}\ngoal g\nstation b 0 1\nstation a 0 0\nlink b a 1 1\nlink a g 1 1"
            found = told_standings(Book(text), 5000)
            self.same(standings_many(Book(text), 5000), len(found))

    def test_with_a_cut_there_is_no_end(self):
        for text in CUTS:
            book = Book(text)
            self.assertIsNone(told_standings(book, 300))
            names = all_lots(book)[-1]
            for most in (1, 300, 10000):
                self.refused(TooMany, most, standings_many, book, most)
                self.refused(TooMany, most, worst_lot, book, names, most)
                self.refused(TooMany, most, worst_weather, book, names, most)
                self.refused(TooMany, most, shows_worst_weather, book, names, most, ())


class Weathers(Case):

    def test_all_weathers_of_that_length(self):
        for text in SMALL:
            book = Book(text)
            ticks = told_ticks(book)
            for names in all_lots(book):
                best = worst_weather(book, names, 2000)
                if len(ticks) ** len(best) <= 1500:
                    self.all_told(book, names, ticks, best)

    def all_told(self, book, names, ticks, best):
        """Of all rows of as many ticks just those are shown that are weathers with the greatest number behind."""
        most = lies_in(book, names, played(book, best)[0])
        for row in itertools.product(ticks, repeat=len(best)):
            right = first_bad(book, row) is None and lies_in(book, names, played(book, row)[0]) == most
            self.assertIs(shows_worst_weather(book, names, 2000, row), right)

    def test_longer_and_shorter_ones(self):
        for text in SMALL:
            book = Book(text)
            for names in all_lots(book):
                best = worst_weather(book, names, 2000)
                calmly = ((0,) * len(book), tuple(range(len(book.links))), (0,) * len(book.links))
                rows = [(calmly,) * book.window + best, (*best, calmly)]
                if best:
                    rows += [best[1:], best[:-1], (*best[:-1], calmly), (calmly, *best[1:])]
                    self.same(shows_worst_weather(book, names, 2000, list(best)), False)
                for row in rows:
                    right = row == best or (
                        len(row) == len(best) and first_bad(book, row) is None
                        and lies_in(book, names, heaps_of(book, row)[-1]) == worst_lot(book, names, 2000))
                    self.assertIs(shows_worst_weather(book, names, 2000, row), right)

    def test_as_long_as_it_takes(self):
        book = Book("net 3 4 0\ngoal g\nstation a 0 1\nlink a g 1 1")
        best = worst_weather(book, ("a",), 2000)
        self.same([worst_lot(book, ("a",), 2000), len(best)], [6, 16])
        heaps = [row[0] for row in heaps_of(book, best)]
        self.assertEqual(heaps.index(6), 16)

    def test_values_of_all_kinds(self):
        book = Book(SMALL[4])
        best = worst_weather(book, ("a",), 9)
        values = [list(best), best[:2], (*best[:2], None), (None, *best[1:]), (None,) * 3, "abc", 3, (1, 2, 3)]
        values += [(*best[:2], ((True,), *best[2][1:])), (list(best[0]), *best[1:]), (None,) * 10001, best * 4000]
        for value in [*values, *any_values()]:
            with self.subTest(value=str(value)[:60]):
                self.assertIs(shows_worst_weather(book, ("a",), 9, value), False)
        self.assertIs(shows_worst_weather(book, ("a",), 9, best), True)

    def test_what_is_no_weather(self):
        book = Book(SMALL[4])
        # Two packets in one window, and a link that is shut for a whole window.
        for row in (
            (((0,), (0,), (0,)), ((0,), (), (0,)), ((2,), (), (0,))),
            (((0,), (), (0,)), ((1,), (), (0,)), ((1,), (), (0,))),
        ):
            self.same([played(book, row)[0], shows_worst_weather(book, ("a",), 9, row)], [(2,), False])


class Refused(Case):
    BOOK = Book(SMALL[4])
    CALLS = (worst_lot, worst_weather, lambda book, names, most: shows_worst_weather(book, names, most, None))

    def test_bad_lots(self):
        for value in [(), "a", ["a"], ("g",), ("b",), ("a", "a"), (1,), {"a": 1}, *any_values()]:
            for call in self.CALLS:
                with self.subTest(value=value):
                    with self.assertRaises(BadLot) as caught:
                        call(self.BOOK, value, 9)
                    self.assertIs(caught.exception.value, value)

    def test_bad_numbers(self):
        wrong = [0, -1, 10001, 10 ** 39, True, False, "9", (9,), [9], None, *any_values()]
        for value in wrong:
            for call, args in ((standings_many, ()), *[(call, (("a",),)) for call in self.CALLS]):
                with self.subTest(value=value):
                    with self.assertRaises(BadNumber) as caught:
                        call(self.BOOK, *args, value)
                    self.assertIs(caught.exception.value, value)

    def test_how_many_ticks_could_come_first(self):
        wide = "net 1 0 {}\ngoal g\nstation a 0 {}\nlink a g 1000 1"
        # 5,000 ticks, by 5,000 puts, or 1,000 puts and 5 ages.
        self.refused(TooMany, 7, standings_many, Book(wide.format(0, 4999)), 7)
        self.same(standings_many(Book(wide.format(4, 999)), 7), 1)
        for late, put in ((0, 5000), (1, 2500), (4, 1000), (5, 999), (0, 1000000), (20, 1000000)):
            self.refused(TooMany, 5000, standings_many, Book(wide.format(late, put)), 7)

    def test_links_that_have_to_be_open_are_not_chosen(self):
        lines = "net {} 0 0\ngoal g\nstation a 0 0\nstation b 0 0\nstation c 0 {}\nstation d 0 0\n"
        names = "abcd"
        links = [f"link {one} {other}" for one in names for other in names if one != other]

        def book(window, put, free):
            text = lines.format(window, put)
            ends = [f"{link} 1 {window - 1 if at < free else window}" for at, link in enumerate(links)]
            return Book(text + "\n".join([*ends, f"link c g 9 {window}"]))

        # Of 12 links 12 or 13 may be shut at the first tick: 2 ** 12 is 4096.
        self.same(standings_many(book(1, 0, 12), 10), 1)
        self.refused(TooMany, 5000, standings_many, book(1, 1, 12), 10)
        self.refused(TooMany, 10, standings_many, book(2, 1, 11), 10)
        self.refused(TooMany, 5000, standings_many, book(2, 2, 11), 10)

    def test_both_stations_and_both_links_count(self):
        text = "net 1 0 1\ngoal g\nstation a 0 {}\nstation b 0 {}\nlink a g 1000 0\nlink b g 1000 1"
        for one, other, told in ((24, 24, 3), (24, 25, 5000), (25, 24, 5000)):
            self.refused(TooMany, told, standings_many, Book(text.format(one, other)), 3)

    def test_the_first_of_several(self):
        wide = Book("net 1 0 0\ngoal g\nstation a 0 5000")
        for call in self.CALLS:
            self.refused(BadLot, (), call, wide, (), 0)
            self.refused(BadLot, ["a"], call, Book(CUTS[0]), ["a"], True)
            self.refused(BadNumber, 0, call, wide, ("a",), 0)
            self.refused(TooMany, 5000, call, wide, ("a",), 7)
            self.refused(TooMany, 7, call, Book(CUTS[0]), ("a",), 7)
        self.refused(BadNumber, 10001, standings_many, wide, 10001)
        self.refused(TooMany, 5000, standings_many, wide, 1)

    def test_the_bounds_of_most(self):
        self.same([standings_many(Book(SMALL[0]), most) for most in (1, 10000)], [1, 1])
        self.same(worst_lot(Book(TEXT.replace("net 4", "net 3").replace("a 2 3", "a 2 0")), ("a", "b"), 10000), 0)


if __name__ == "__main__":
    unittest.main()
