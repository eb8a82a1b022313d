import itertools
import unittest

from downhillnet.books import Book
from downhillnet.errors import BadTicks, TooMany
from downhillnet.weather import calm, finished, first_bad, is_tick, may_come, rough, windows_in, windows_many
from tests.tools import TEXT, Case, any_values

BOOK = Book("net 3 0 2\ngoal g\nstation a 0 4\nstation b 0 1000000\nlink a b 1 2\nlink b g 1 0\nlink a g 1 3")
BARE = Book("net 2 0 1\ngoal g\nstation a 0 3")
SMALL = [
    "net 1 0 0\ngoal g\nstation a 0 2",
    "net 2 0 0\ngoal g\nstation a 0 2",
    "net 1 0 1\ngoal g\nstation a 0 1\nlink a g 1 1",
    "net 2 0 1\ngoal g\nstation a 0 2\nlink a g 1 1",
    "net 2 0 0\ngoal g\nstation a 0 1\nstation b 0 0\nlink a b 1 2\nlink b g 1 0",
    "net 3 0 0\ngoal g\nstation a 0 2\nlink a g 1 2",
    "net 3 0 1\ngoal g\nstation a 0 1\nlink a g 1 0",
    "net 2 0 2\ngoal g\nstation a 0 1\nlink a g 9 0",
]


def all_ticks(book):
    """All ticks with puts of which one more than PUT is the greatest."""
    many = len(book.links)
    puts = itertools.product(*[range(put + 2) for _, _, put in book.stations])
    opens = [lot for size in range(many + 1) for lot in itertools.combinations(range(many), size)]
    ages = itertools.product(range(book.late + 1), repeat=many)
    return list(itertools.product(puts, opens, ages))


def may_be_next(book, ticks):
    """Whether the last one of these ticks can come behind the others, word by word as the document tells."""
    rest = (len(ticks) - 1) % book.window + 1
    window = ticks[len(ticks) - rest:]
    later = book.window - rest
    for number, station in enumerate(book.stations):
        if sum(tick[0][number] for tick in window) > station[2]:
            return False
    for number, link in enumerate(book.links):
        if sum(number in tick[1] for tick in window) + later < link[3]:
            return False
    return True


class Ticks(Case):

    def test_ticks(self):
        for value in [
            ((0, 0), (), (0, 0, 0)), ((1000000, 1000000), (0, 1, 2), (2, 2, 2)), ((5, 7), (0, 2), (0, 1, 2)),
            ((0, 1), (1,), (0, 0, 0)), ((0, 1), (2,), (0, 0, 0)),
        ]:
            with self.subTest(value=value):
                self.assertIs(is_tick(BOOK, value), True)
        self.assertIs(is_tick(BARE, ((1000000,), (), ())), True)

    def test_values_of_all_kinds(self):
        for value in [*any_values(), (), 0, 1, ((),), ((), (), ()), "abc", ("0", "0", "0"), (1, 2, 3)]:
            for book in (BOOK, BARE):
                with self.subTest(value=value):
                    self.assertIs(is_tick(book, value), False)

    def test_not_three_parts(self):
        good = ((0, 0), (), (0, 0, 0))
        for value in [list(good), good[:2], (*good, ()), good[1:], {0: good}]:
            with self.subTest(value=value):
                self.assertIs(is_tick(BOOK, value), False)

    def test_wrong_puts(self):
        wrong = [(), (0,), (0, 0, 0), [0, 0], (0, -1), (-1, 0), (0, 1000001), (True, 0), (0, False), (None, 0)]
        for puts in [*wrong, (0, "0"), "00", 0, None, {0: 0, 1: 0}, ((0, 0),), (0, (0,)), (0, [0]), *any_values()]:
            with self.subTest(puts=puts):
                self.assertIs(is_tick(BOOK, (puts, (), (0, 0, 0))), False)

    def test_wrong_opens(self):
        wrong = [(3,), (-1,), (0, 0), (1, 0), (0, 2, 1), (0, 1, 2, 3), (0, 1, 2, 2), [], [0], (True,), (False,)]
        for opens in [*wrong, (0, True), ("0",), (None,), ((0,),), ([0],), None, 0, "", {}, {0: 0}, *any_values()]:
            with self.subTest(opens=opens):
                self.assertIs(is_tick(BOOK, ((0, 0), opens, (0, 0, 0))), False)
        self.assertIs(is_tick(BARE, ((0,), (0,), ())), False)

    def test_wrong_ages(self):
        wrong = [(), (0, 0), (0, 0, 0, 0), [0, 0, 0], (0, 0, 3), (-1, 0, 0), (0, True, 0), (False, 0, 0), (0, None, 0)]
        for ages in [*wrong, (0, "0", 0), "000", 0, None, {}, (0, (0,), 0), *any_values()]:
            with self.subTest(ages=ages):
                self.assertIs(is_tick(BOOK, ((0, 0), (), ages)), False)

    def test_ages_up_to_late(self):
        for late in (0, 1, 20):
            book = Book(f"net 1 0 {late}\ngoal g\nstation a 0 0\nlink a g 1 0")
            self.assertIs(is_tick(book, ((0,), (), (late,))), True)
            self.assertIs(is_tick(book, ((0,), (), (late + 1,))), False)


class Weathers(Case):

    def calls(self):
        return (may_come, windows_in, finished)

    def bad(self, book, ticks, number):
        """Each function refuses these ticks with this number."""
        self.same(first_bad(book, ticks), number)
        for call in self.calls():
            with self.subTest(call=call, ticks=ticks[-3:]):
                self.refused(BadTicks, number, call, book, ticks)

    def test_no_tuple(self):
        one = ((0,), (), ())
        for value in [*any_values(), [], [one], {0: one}, "", 0, 1]:
            if not isinstance(value, tuple):
                for call in (first_bad, *self.calls()):
                    with self.subTest(call=call, value=value):
                        self.refused(BadTicks, None, call, BARE, value)

    def test_too_long(self):
        one = ((0,), (), ())
        self.same([first_bad(BARE, (one,) * 10000), windows_in(BARE, (one,) * 10000)], [None, (5000, 0)])
        self.same([may_come(BARE, (one,) * 10000), len(finished(BARE, (one,) * 10000))], [((3,), ()), 10000])
        for value in ((one,) * 10001, (None,) * 10001, (one,) * 20000):
            for call in (first_bad, *self.calls()):
                self.refused(BadTicks, None, call, BARE, value)

    def test_what_is_no_tick(self):
        one = ((0,), (), ())
        for value in [*any_values(), (), 0, ((0,), ()), ((1000001,), (), ()), ((0,), (0,), ()), ((True,), (), ())]:
            self.bad(BARE, (value,), 0)
            self.bad(BARE, (one, one, one, value, one, value), 3)

    def test_puts_above_those_of_the_window(self):
        def rows(*puts):
            return tuple(((put,), (), ()) for put in puts)

        self.bad(BARE, rows(4), 0)
        self.bad(BARE, rows(2, 2), 1)
        self.bad(BARE, rows(3, 0, 4, 0), 2)
        self.bad(BARE, rows(1, 2, 1, 3, 9), 3)
        self.same([first_bad(BARE, rows(3, 0, 3, 0, 0, 3, 3)), first_bad(BARE, rows(1, 2, 2, 1))], [None, None])

    def test_each_station_has_its_own_puts(self):
        shut = (0, 2)
        ages = (0, 0, 0)
        self.same(first_bad(BOOK, (((4, 1000000), shut, ages),)), None)
        self.bad(BOOK, (((5, 0), shut, ages),), 0)
        self.bad(BOOK, (((0, 1000000), shut, ages), ((0, 1), shut, ages)), 1)

    def test_links_shut_too_often(self):
        puts, ages = (0, 0), (0, 0, 0)

        def rows(*opens):
            return tuple((puts, lot, ages) for lot in opens)

        self.bad(BOOK, rows((0, 1)), 0)
        self.bad(BOOK, rows((2,), (2,)), 1)
        self.bad(BOOK, rows((0, 2), (2,), (1, 2)), 2)
        self.bad(BOOK, rows((2,), (0, 2), (0, 2), (2,), (2,), (0, 2)), 4)
        self.same(first_bad(BOOK, rows((2,), (0, 2), (0, 2), (0, 2), (0, 2), (2,), (0, 1, 2))), None)

    def test_no_tick_ahead_of_what_cannot_come(self):
        self.bad(BARE, (((0,), (), ()), None, ((9,), (), ())), 1)
        self.bad(BARE, (((0,), (), ()), ((9,), (), ()), None), 1)

    def test_what_may_come_by_going_through_all(self):
        for text in SMALL:
            book = Book(text)
            ticks = all_ticks(book)
            rows = [()]
            for _ in range(min(book.window + 1, 3)):
                rows = [(*row, tick) for row in rows for tick in ticks if may_be_next(book, (*row, tick))]
                rows = rows[::max(1, len(rows) // 40)]
                for row in rows:
                    self.comes_next(book, row, ticks)

    def comes_next(self, book, row, ticks):
        """may_come and first_bad tell of each tick whether it can come behind the row."""
        most, must = may_come(book, row)
        for tick in ticks:
            told = all(put <= many for put, many in zip(tick[0], most)) and set(must) <= set(tick[1])
            right = may_be_next(book, (*row, tick))
            self.assertIs(told, right)
            self.assertEqual(first_bad(book, (*row, tick)), None if right else len(row))

    def test_no_ticks(self):
        for book in (BOOK, BARE, Book(TEXT)):
            self.same([first_bad(book, ()), windows_in(book, ()), finished(book, ())], [None, (0, 0), ()])

    def test_may_come_at_the_beginning(self):
        self.same(may_come(BOOK, ()), ((4, 1000000), (2,)))
        self.same(may_come(BARE, ()), ((3,), ()))

    def test_may_come_in_an_unfinished_window(self):
        row = (((1, 7), (2,), (0, 0, 0)),)
        self.same(may_come(BOOK, row), ((3, 999993), (0, 2)))
        row = (*row, ((3, 0), (0, 1, 2), (2, 2, 2)))
        self.same(may_come(BOOK, row), ((0, 999993), (0, 2)))

    def test_may_come_behind_whole_windows(self):
        self.same(may_come(BOOK, rough(BOOK)), ((4, 1000000), (2,)))
        self.same(may_come(BOOK, rough(BOOK) + calm(BOOK)), ((4, 1000000), (2,)))
        self.same(may_come(BOOK, rough(BOOK) + calm(BOOK)[:2]), ((4, 1000000), (2,)))
        self.same(may_come(BOOK, calm(BOOK) + rough(BOOK)[:2]), ((0, 0), (0, 2)))

    def test_windows_in(self):
        ticks = calm(BOOK) * 3
        for many in range(10):
            self.same(windows_in(BOOK, ticks[:many]), (many // 3, many % 3))

    def test_whole_windows_in_any_sequence(self):
        for row in itertools.product((calm(BOOK), rough(BOOK), finished(BOOK, rough(BOOK)[:1])), repeat=3):
            self.same(first_bad(BOOK, row[0] + row[1] + row[2]), None)


class Windows(Case):

    def test_calm(self):
        puts, ages = (0, 0), (0, 0, 0)
        self.same(calm(BOOK), ((puts, (0, 2), ages), (puts, (0, 2), ages), (puts, (2,), ages)))
        self.same(calm(BARE), (((0,), (), ()), ((0,), (), ())))

    def test_rough(self):
        none, ages = (0, 0), (2, 2, 2)
        self.same(rough(BOOK), (((4, 1000000), (2,), ages), (none, (0, 2), ages), (none, (0, 2), ages)))
        self.same(rough(BARE), (((3,), (), ()), ((0,), (), ())))
        self.same(rough(Book(SMALL[2])), (((1,), (0,), (1,)),))

    def test_both_are_weathers_of_one_window(self):
        for text in [*SMALL, TEXT, "net 40 0 20\ngoal g\nstation a 0 9\nlink a g 3 39"]:
            book = Book(text)
            for row in (calm(book), rough(book)):
                self.same([first_bad(book, row), windows_in(book, row)], [None, (1, 0)])
                for number, link in enumerate(book.links):
                    self.assertEqual(sum(number in tick[1] for tick in row), link[3])

    def test_finished_with_nothing_to_end(self):
        for row in ((), calm(BOOK), rough(BOOK) * 2):
            self.same(finished(BOOK, row), row)

    def test_finished_with_an_unfinished_window(self):
        first = ((1, 7), (2,), (2, 1, 0))
        none, ages = (0, 0), (0, 0, 0)
        self.same(finished(BOOK, (first,)), (first, (none, (0, 2), ages), (none, (0, 2), ages)))
        first = ((1, 7), (0, 1, 2), (2, 1, 0))
        self.same(finished(BOOK, (first,)), (first, (none, (2,), ages), (none, (0, 2), ages)))
        ahead = calm(BOOK) + (first, first)
        self.same(finished(BOOK, ahead), (*ahead, (none, (2,), ages)))

    def test_finished_by_what_must_come(self):
        for text in [*SMALL, TEXT]:
            book = Book(text)
            row = rough(book) + calm(book)[:1]
            whole = finished(book, row)
            self.assertEqual((whole[:len(row)], windows_in(book, whole)), (row, (2, 0)))
            for number in range(len(row), len(whole)):
                puts, opens, ages = whole[number]
                self.assertEqual((set(puts), set(ages) - {0}), ({0}, set()))
                self.same(opens, may_come(book, whole[:number])[1])

    def test_finished_beyond_the_most_ticks(self):
        book = Book("net 3 0 0\ngoal g\nstation a 0 0\nlink a g 1 1")
        row = (((0,), (), (0,)), ((0,), (), (0,)), ((0,), (0,), (0,))) * 3333 + (((0,), (), (0,)),)
        self.same(finished(book, row), (*row, *row[1:3]))
        self.refused(BadTicks, None, finished, book, finished(book, row))


class Many(Case):

    def test_by_counting_one_by_one(self):
        for text in SMALL:
            book = Book(text)
            many = 0
            for row in itertools.product(all_ticks(book), repeat=book.window):
                right = all(may_be_next(book, row[:number]) for number in range(1, book.window + 1))
                self.assertIs(first_bad(book, row) is None, right)
                many += right
            with self.subTest(text):
                self.same(windows_many(book), many)

    def test_at_the_border(self):
        book = Book("net 1 0 0\ngoal g\nstation a 0 999999\nstation b 0 999999\nstation c 0 999999")
        self.same(windows_many(book), 10 ** 18)
        book = Book("net 1 0 9\ngoal g\nstation a 0 999999\nstation b 0 999999\nstation c 0 99999\nlink a b 1 1")
        self.same(windows_many(book), 10 ** 18)

    def with_puts(self, *puts):
        """A book with windows of one tick, no links, and these puts: each and one more is a factor."""
        lines = [f"station {letter} 0 {put}" for letter, put in zip("abcd", puts)]
        return Book("\n".join(["net 1 0 0", "goal g", *lines]))

    def test_just_below_the_border(self):
        self.same(windows_many(self.with_puts(81080, 702, 52578, 333666)), 10 ** 18 - 1)

    def test_just_beyond_the_border(self):
        # The product is 10 ** 18 + 8.
        self.assertEqual(6984 * 26209 * 32779 * 166667, 10 ** 18 + 8)
        for book in (
            self.with_puts(6983, 26208, 32778, 166666),
            self.with_puts(1000000, 999999, 999999),
            Book("net 1 0 1\ngoal g\nstation a 0 999999\nstation b 0 999999\nstation c 0 999999\nlink a b 1 1"),
            Book("net 1 0 0\ngoal g\nstation a 0 999999\nstation b 0 999999\nstation c 0 999999\nlink a b 1 0"),
        ):
            self.refused(TooMany, 10 ** 18, windows_many, book)

    def test_far_beyond_the_border(self):
        names = list("abcdefghijklmnopqrst")
        lines = ["net 40 0 20", "goal home", *[f"station {name} 0 1000000" for name in names]]
        pairs = [(one, other) for one in names for other in names if one != other]
        lines += [f"link {one} {other} 1 0" for one, other in pairs[:60]]
        self.refused(TooMany, 10 ** 18, windows_many, Book("\n".join(lines)))

    def test_nothing_to_choose(self):
        self.same(windows_many(Book("net 40 0 0\ngoal g\nstation a 0 0\nlink a g 1 40")), 1)


if __name__ == "__main__":
    unittest.main()
