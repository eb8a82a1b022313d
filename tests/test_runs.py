import random
import unittest

from downhillnet.books import Book
from downhillnet.errors import BadHeaps, BadNames, BadTick, BadTicks
from downhillnet.runs import Run, heaps_of, most_in, passes_of, played, run_from
from downhillnet.weather import first_bad
from tests.tools import TEXT, Case, any_values, some_books, some_ticks, told_run

ROW = Book("net 2 3 2\ngoal g\nstation a 5 0\nstation b 1 0\nlink a b 4 1\nlink b g 2 2")
FORK = Book(
    "net 3 0 0\ngoal g\nstation b 0 9\nstation a 0 9\nstation c 0 9\n"
    "link a c 2 1\nlink b a 3 1\nlink a g 3 1\nlink c g 9 1\nlink a b 4 1"
)
NONE = (0, 0, 0)


def stands(run):
    """All that is told of a run."""
    return [run.book, run.tick, run.window, run.heaps, run.home, run.weather, run.passed]


def one_by_one(book, heaps, puts, opens, ages):
    """What a tick passes, and the heaps behind it, in a run that begins with these heaps."""
    run = run_from(book, heaps)
    passes = run.go_on((puts, opens, ages))
    return passes, run.heaps


class Rule(Case):

    def test_beside_what_the_document_tells_word_by_word(self):
        chance = random.Random(6)
        for book in some_books(chance, 120):
            ticks = some_ticks(chance, book, 12)
            heaps = tuple(chance.choice([0, 0, 1, 3, 20]) for _ in book.stations)
            none = (0,) * len(book)
            lay, passes = told_run(book, none, ticks)
            self.same([heaps_of(book, ticks), passes_of(book, ticks)], [lay, passes])
            self.goes(Run(book), none, ticks)
            self.goes(run_from(book, heaps), heaps, ticks)

    def goes(self, run, heaps, ticks):
        """The run, which begins with these heaps, stands at each tick as is told word by word."""
        book = run.book
        lay, passes = told_run(book, heaps, ticks)
        for number, tick in enumerate(ticks):
            self.same([run.tick, run.window, run.heaps], [number, number // book.window, lay[number]])
            self.same(run.go_on(tick), passes[number])
            passed = tuple(sum(row[at] for row in passes[:number + 1]) for at in range(len(book.links)))
            home = sum(many for many, link in zip(passed, book.links) if link[1] == book.goal)
            self.same([run.passed, run.home, run.weather], [passed, home, ticks[:number + 1]])
            put_in = sum(sum(row[0]) for row in ticks[:number + 1])
            self.assertEqual(sum(run.heaps) + run.home, sum(heaps) + put_in)
        self.same(run.heaps, lay[-1])

    def test_no_more_than_the_room_or_what_is_there(self):
        chance = random.Random(7)
        for book in some_books(chance, 60):
            ticks = some_ticks(chance, book, 10)
            lay = heaps_of(book, ticks)
            for number, passes in enumerate(passes_of(book, ticks)):
                for many, link in zip(passes, book.links):
                    self.assertLessEqual(many, link[2])
                for at, station in enumerate(book.stations):
                    out = sum(many for many, link in zip(passes, book.links) if link[0] == station[0])
                    self.assertLessEqual(out, lay[number][at] + ticks[number][0][at])

    def test_links_of_one_station_in_the_order_of_their_numbers(self):
        ages = (0,) * 5
        for many, told in ((9, (2, 0, 3, 0, 4)), (7, (2, 0, 3, 0, 2)), (4, (2, 0, 2, 0, 0)), (1, (1, 0, 0, 0, 0))):
            passes, heaps = one_by_one(FORK, (0, many, 0), NONE, (0, 1, 2, 3, 4), ages)
            self.same([passes, heaps], [told, (told[4], many - told[0] - told[2] - told[4], told[0])])
            self.same(one_by_one(FORK, NONE, (0, many, 0), (0, 1, 2, 3, 4), ages), (passes, heaps))
        self.same(one_by_one(FORK, (0, 4, 0), NONE, (2, 4), ages), ((0, 0, 3, 0, 1), (1, 0, 0)))
        self.same(one_by_one(FORK, (0, 4, 0), NONE, (4,), ages), ((0, 0, 0, 0, 4), (4, 0, 0)))

    def test_what_is_left_counts_for_what_passes_not_for_whether_it_passes(self):
        # a has 5: 2 go to c, and 3 more to the goal; b holds 4, which is below the 5 that a has, so it would pass.
        self.same(one_by_one(FORK, (4, 5, 0), NONE, (0, 2, 4), (0,) * 5), ((2, 0, 3, 0, 0), (4, 0, 2)))
        self.same(one_by_one(FORK, (4, 7, 0), NONE, (0, 2, 4), (0,) * 5), ((2, 0, 3, 0, 2), (6, 0, 2)))
        self.same(one_by_one(FORK, (5, 5, 0), NONE, (0, 4), (0,) * 5), ((2, 0, 0, 0, 0), (5, 3, 2)))

    def test_what_comes_at_a_tick_goes_on_at_the_next_one_only(self):
        self.same(one_by_one(FORK, (0, 2, 0), NONE, (0, 3), (0,) * 5), ((2, 0, 0, 0, 0), (0, 0, 2)))

    def test_what_is_put_in_goes_on_at_once_but_is_not_heard(self):
        self.same(one_by_one(FORK, NONE, (0, 1, 9), (0,), (0,) * 5), ((1, 0, 0, 0, 0), (0, 0, 10)))
        self.same(one_by_one(FORK, (0, 0, 1), (0, 1, 0), (0,), (0,) * 5), ((0, 0, 0, 0, 0), (0, 1, 1)))

    def test_just_above_the_margin(self):
        for less, more in ((7, 8), (0, 1)):
            # Heard of b are its level 1 and its heap; the level of a is 5, the margin 3.
            heap = less + 1
            for heaps, passes in (((less, heap), 0), ((more, heap), min(4, more))):
                self.same(one_by_one(ROW, heaps, (0, 0), (0,), (0, 0))[0], (passes, 0))

    def test_just_above_the_margin_with_packets_put_in(self):
        self.same(one_by_one(ROW, (2, 8), (5, 9), (0,), (0, 0))[0], (0, 0))
        self.same(one_by_one(ROW, (2, 8), (6, 9), (0,), (0, 0))[0], (4, 0))

    def test_the_level_of_the_goal_is_none(self):
        # b has the level 1, the margin is 3: 3 packets are one above.
        told = [one_by_one(ROW, (0, heap), (0, 0), (1,), (0, 0))[0] for heap in (2, 3, 4)]
        self.same(told, [(0, 0), (0, 2), (0, 2)])

    def test_packets_lie_uphill(self):
        book = Book("net 1 0 0\ngoal g\nstation a 0 0\nstation b 300000000 0\nlink a b 1000 1\nlink b a 1000 1")
        self.same(one_by_one(book, (300000000, 0), (0, 0), (0, 1), (0, 0)), ((0, 0), (300000000, 0)))
        self.same(one_by_one(book, (300000001, 0), (0, 0), (0, 1), (0, 0)), ((1000, 0), (299999001, 1000)))
        self.same(one_by_one(book, (0, 1), (0, 0), (0, 1), (0, 0)), ((0, 1), (1, 0)))
        self.same(one_by_one(book, (10 ** 9, 7 * 10 ** 8), (0, 0), (0, 1), (0, 0)), ((0, 0), (10 ** 9, 7 * 10 ** 8)))

    def test_none_left_to_pass_downhill(self):
        self.same(one_by_one(ROW, (0, 0), (0, 0), (0, 1), (0, 0)), ((0, 0), (0, 0)))

    def test_links_that_are_shut_pass_nothing(self):
        self.same(one_by_one(FORK, (9, 9, 9), (9, 9, 9), (), (0,) * 5), ((0, 0, 0, 0, 0), (18, 18, 18)))

    def test_two_ways_between_two_stations(self):
        book = Book("net 1 0 0\ngoal g\nstation a 0 0\nstation b 0 0\nlink a b 2 1\nlink b a 3 1")
        self.same(one_by_one(book, (5, 5), (0, 0), (0, 1), (0, 0)), ((0, 0), (5, 5)))
        self.same(one_by_one(book, (5, 4), (0, 0), (0, 1), (0, 0)), ((2, 0), (3, 6)))
        # Both hear what lay there, not what was put in: so each one passes to the other.
        self.same(one_by_one(book, (5, 5), (1, 1), (0, 1), (0, 0)), ((2, 3), (7, 5)))


class Ages(Case):
    LATE = Book("net 4 0 3\ngoal g\nstation a 0 0\nstation b 0 0\nlink a b 1 1")

    def hears(self, run, has, heap, age):
        """A copy of the run hears just this heap of b at this age: one packet more, put in at a, is passed."""
        own = run.heaps[0]
        for put, passes in ((heap - own, 0), (heap - own + 1, 1)):
            if put >= 0:
                self.same(run.copy().go_on(((put, has), (0,), (age,))), (passes,))

    def test_each_age_at_each_tick(self):
        run = Run(self.LATE)
        lay = [0, 0, 0, 0]
        for put in (3, 0, 4, 1, 5, 9):
            for age in range(4):
                self.hears(run, 0, lay[-1 - age], age)
            run.go_on(((0, put), (), (0,)))
            lay.append(lay[-1] + put)

    def test_heaps_of_the_beginning_lay_there_ahead_of_tick_0(self):
        run = run_from(self.LATE, (0, 7))
        for age in range(4):
            self.hears(run, 5, 7, age)
        run.go_on(((0, 2), (), (0,)))
        for age, heap in enumerate((9, 7, 7, 7)):
            self.hears(run, 0, heap, age)
        run.go_on(((0, 2), (), (0,)))
        for age, heap in enumerate((11, 9, 7, 7)):
            self.hears(run, 0, heap, age)

    def test_the_age_of_each_link_by_itself(self):
        book = Book("net 1 0 1\ngoal g\nstation a 0 0\nstation b 0 0\nstation c 0 0\nlink a b 1 1\nlink a c 1 1")
        run = Run(book)
        run.go_on(((0, 9, 9), (), (0, 0)))
        told = [run.copy().go_on(((5, 0, 0), (0, 1), ages)) for ages in ((0, 0), (0, 1), (1, 0), (1, 1))]
        self.same(told, [(0, 0), (0, 1), (1, 0), (1, 1)])

    def test_the_age_of_a_link_to_the_goal_does_not_matter(self):
        book = Book("net 1 2 20\ngoal g\nstation a 0 0\nlink a g 5 1")
        for age in range(21):
            self.same(run_from(book, (3,)).go_on(((0,), (0,), (age,))), (3,))
            self.same(run_from(book, (2,)).go_on(((0,), (0,), (age,))), (0,))

    def test_the_greatest_age(self):
        book = Book("net 1 0 20\ngoal g\nstation a 0 0\nstation b 0 0\nlink a b 1 1")
        run = Run(book)
        for _ in range(20):
            run.go_on(((0, 1), (), (0,)))
        self.same(run.copy().go_on(((1, 0), (0,), (20,))), (1,))
        run.go_on(((0, 1), (), (0,)))
        self.same([run.heaps, run.copy().go_on(((1, 0), (0,), (20,))), run.go_on(((2, 0), (0,), (20,)))],
                  [(0, 21), (0,), (1,)])


class Runs(Case):

    def test_ahead_of_tick_0(self):
        self.same(stands(Run(ROW)), [ROW, 0, 0, (0, 0), 0, (), (0, 0)])
        self.same(stands(run_from(ROW, (4, 10 ** 9))), [ROW, 0, 0, (4, 10 ** 9), 0, (), (0, 0)])
        self.same(stands(Run(Book("net 1 0 0\ngoal g\nstation a 0 0")))[3:], [(0,), 0, (), ()])

    def test_properties_are_set_on_the_object(self):
        names = {"book", "tick", "window", "heaps", "home", "weather", "passed"}
        for run in (Run(ROW), run_from(ROW, (1, 1)), Run(ROW).copy()):
            self.assertLessEqual(names, set(vars(run)))

    def test_methods_are_defined_in_the_class(self):
        self.assertLessEqual({"__init__", "go_on", "copy"}, set(vars(Run)))

    def test_from_no_packets_as_from_the_beginning(self):
        tick = ((3, 9), (0, 1), (2, 1))
        one, other = Run(ROW), run_from(ROW, (0, 0))
        self.same([one.go_on(tick), stands(one)], [other.go_on(tick), stands(other)])

    def test_copies_go_on_alone(self):
        run = run_from(ROW, (9, 1))
        run.go_on(((1, 2), (0, 1), (0, 0)))
        ahead = stands(run)
        other = run.copy()
        self.assertIsNot(other, run)
        self.same(stands(other), ahead)
        other.go_on(((0, 7), (1,), (0, 0)))
        self.same(stands(run), ahead)
        behind = stands(other)
        self.assertNotEqual(behind, ahead)
        run.go_on(((4, 0), (0,), (2, 0)))
        run.go_on(((4, 0), (0,), (2, 0)))
        self.same(stands(other), behind)

    def test_a_copy_hears_the_same_of_old(self):
        run = run_from(ROW, (0, 50))
        run.go_on(((0, 0), (1,), (0, 0)))
        for age in (0, 1, 2):
            tick = ((48, 0), (0,), (age, 0))
            self.same(run.copy().copy().go_on(tick), (4 if age == 0 else 0, 0))
            self.same(run.copy().go_on(tick), run.copy().copy().go_on(tick))

    def test_copies_of_copies_at_each_tick(self):
        chance = random.Random(8)
        for book in some_books(chance, 20):
            ticks = some_ticks(chance, book, 8)
            run = Run(book)
            copies = [run.copy()]
            for tick in ticks:
                run = run.copy()
                run.go_on(tick)
                copies.append(run.copy())
            for number, other in enumerate(copies):
                self.same((other.tick, other.heaps), (number, heaps_of(book, ticks)[number]))
                for tick in ticks[number:]:
                    other.go_on(tick)
                self.same(stands(other), stands(run))

    def test_a_tick_that_is_refused_changes_nothing(self):
        run = run_from(ROW, (9, 1))
        run.go_on(((1, 2), (0, 1), (0, 0)))
        ahead = dict(vars(run))
        for tick in [*any_values(), (), ((0, 0), (0, 1)), ((0, 0), (0, 2), (0, 0)), ((0, 0), (), (0, 3))]:
            self.refused(BadTick, tick, run.go_on, tick)
            self.same(vars(run), ahead)

    def test_bad_ticks_of_all_kinds(self):
        good = ((0, 0), (0, 1), (0, 0))
        values = [*any_values(), (), 0, good[:2], (*good, ()), list(good), "abc", ((), (), ()), (good,)]
        for place in range(3):
            for part in [*any_values(), [0, 0], (2,), (True, 0), (0, -1), ("0", 0), (1, 0, 0)]:
                values.append((*good[:place], part, *good[place + 1:]))
        values += [((1000001, 0), *good[1:]), (good[0], (1, 0), good[2]), (good[0], (0, 0), good[2])]
        for tick in values:
            with self.subTest(tick=tick):
                with self.assertRaises(BadTick) as caught:
                    Run(ROW).go_on(tick)
                self.assertIs(caught.exception.value, tick)

    def test_heaps_to_begin_with(self):
        for heaps in ((0, 0), (10 ** 9, 0), (0, 10 ** 9), (3, 4)):
            self.same(run_from(ROW, heaps).heaps, heaps)

    def test_bad_heaps(self):
        wrong = [(10 ** 9 + 1, 0), (0, 10 ** 9 + 1), (-1, 0), (0, -1), (0,), (0, 0, 0), (), [0, 0], (True, 0)]
        for heaps in [*wrong, (0, False), ("0", 0), (0, None), ((0,), 0), 0, "00", {0: 0, 1: 0}, *any_values()]:
            with self.subTest(heaps=heaps):
                with self.assertRaises(BadHeaps) as caught:
                    run_from(ROW, heaps)
                self.assertIs(caught.exception.value, heaps)

    def test_the_number_of_the_window(self):
        run = Run(FORK)
        told = []
        for _ in range(8):
            told.append((run.tick, run.window))
            run.go_on((NONE, (), (0,) * 5))
        self.same(told, [(0, 0), (1, 0), (2, 0), (3, 1), (4, 1), (5, 1), (6, 2), (7, 2)])


class Rows(Case):
    CALLS = (played, heaps_of, passes_of, lambda book, ticks: most_in(book, ticks, ()))

    def test_no_ticks(self):
        self.same([played(ROW, ()), heaps_of(ROW, ()), passes_of(ROW, ())], [((0, 0), 0), ((0, 0),), ()])
        self.same([most_in(ROW, (), ("a", "b")), most_in(ROW, (), ())], [0, 0])

    def test_beside_runs(self):
        chance = random.Random(9)
        for book in some_books(chance, 40):
            ticks = some_ticks(chance, book, 9)
            run = Run(book)
            lay, passes = [run.heaps], []
            for tick in ticks:
                passes.append(run.go_on(tick))
                lay.append(run.heaps)
            self.same(played(book, ticks), (run.heaps, run.home))
            self.same([heaps_of(book, ticks), passes_of(book, ticks)], [tuple(lay), tuple(passes)])
            names = [station[0] for station in book.stations]
            for lot in [(), *[(name,) for name in names], tuple(sorted(names)), tuple(sorted(names))[1:]]:
                most = max(sum(row[at] for at, name in enumerate(names) if name in lot) for row in lay)
                self.same(most_in(book, ticks, lot), most)

    def test_most_at_the_first_amid_and_at_the_last(self):
        book = Book("net 9 0 0\ngoal g\nstation b 0 9\nstation a 0 9\nlink a g 3 0\nlink b g 9 0")
        up, down = ((2, 5), (), (0, 0)), ((0, 0), (0, 1), (0, 0))
        self.same([most_in(book, (up, down, down), names) for names in (("a",), ("b",), ("a", "b"))], [5, 2, 7])
        self.same([most_in(book, (down, up), names) for names in (("a",), ("b",), ("a", "b"))], [5, 2, 7])
        self.same(most_in(book, (((2, 5), (0, 1), (0, 0)),), ("a", "b")), 2)

    def test_ticks_need_not_keep_the_book(self):
        book = Book("net 2 0 1\ngoal g\nstation a 0 1\nlink a g 1 2")
        ticks = (((1000000,), (), (1,)), ((5,), (), (0,)), ((0,), (0,), (0,)))
        self.same(first_bad(book, ticks), 0)
        self.same([played(book, ticks), passes_of(book, ticks)], [((1000004,), 1), ((0,), (0,), (1,))])
        self.same(heaps_of(book, ticks), ((0,), (1000000,), (1000005,), (1000004,)))
        self.same(most_in(book, ticks, ("a",)), 1000005)

    def test_the_same_up_to_a_tick(self):
        chance = random.Random(10)
        for book in some_books(chance, 30):
            one, other = some_ticks(chance, book, 8), some_ticks(chance, book, 8)
            both = (*one[:4], *other[4:])
            self.same(heaps_of(book, both)[:5], heaps_of(book, one)[:5])

    def test_what_is_no_tuple(self):
        one = ((0, 0), (), (0, 0))
        for ticks in [*any_values(), [], [one], {0: one}, "", 0]:
            if not isinstance(ticks, tuple):
                for call in self.CALLS:
                    with self.subTest(call=call, ticks=ticks):
                        self.refused(BadTicks, None, call, ROW, ticks)

    def test_how_many_ticks(self):
        book = Book("net 1 0 0\ngoal g\nstation a 0 0")
        one = ((1,), (), ())
        self.same(played(book, (one,) * 10000), ((10000,), 0))
        self.same([len(heaps_of(book, (one,) * 10000)), len(passes_of(book, (one,) * 10000))], [10001, 10000])
        for ticks in ((one,) * 10001, (None,) * 10001):
            for call in self.CALLS:
                self.refused(BadTicks, None, call, book, ticks)

    def test_the_first_part_that_is_no_tick(self):
        one = ((0, 0), (), (0, 0))
        wrong = [(), 0, one[:2], ((0, 0), (2,), (0, 0)), ((0, True), (), (0, 0)), (one,), list(one)]
        for value in [*wrong, *any_values()]:
            for call in self.CALLS:
                with self.subTest(call=call, value=value):
                    self.refused(BadTicks, 0, call, ROW, (value,))
                    self.refused(BadTicks, 2, call, ROW, (one, one, value, one, None))

    def test_bad_names(self):
        wrong = ["a", ["a"], ("g",), ("b", "a"), ("a", "a"), ("x",), (1,), (True,), ("a", None), ("a", "b", "g")]
        for names in [*wrong, {"a": 1}, *any_values()]:
            with self.subTest(names=names):
                with self.assertRaises(BadNames) as caught:
                    most_in(ROW, (), names)
                self.assertIs(caught.exception.value, names)

    def test_bad_ticks_ahead_of_bad_names(self):
        for names in (("b", "a"), None, []):
            self.refused(BadTicks, None, most_in, ROW, [], names)
            self.refused(BadTicks, 0, most_in, ROW, (None,), names)

    def test_not_the_names_of_another_book(self):
        self.refused(BadNames, ("c",), most_in, Book(TEXT), (), ("c",))
        self.same(most_in(FORK, (), ("c",)), 0)


if __name__ == "__main__":
    unittest.main()
