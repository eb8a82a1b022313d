"""The examples in code of the document, to the letter."""

import doctest
import unittest

SECTION_4 = r"""
>>> from downhillnet.books import Book, book_text, is_lot, link_number, links_in, links_out, puts_of, rooms_of, station_number
>>> text = 'net 4 0 1\ngoal home\nstation a 2 3\nstation b 1 0\nlink a b 2 2\nlink b home 1 3\nlink b a 1 0'
>>> book = Book(text)
>>> [book.window, book.margin, book.late, book.goal, book.stations, len(book)]
[4, 0, 1, 'home', (('a', 2, 3), ('b', 1, 0)), 2]
>>> [book.links, book_text(4, 0, 1, 'home', book.stations, book.links) == text, book == Book(text)]
[(('a', 'b', 2, 2), ('b', 'home', 1, 3), ('b', 'a', 1, 0)), True, True]
>>> [station_number(book, 'b'), link_number(book, 'b', 'home'), is_lot(book, ('a', 'b')), is_lot(book, ('b', 'a')), is_lot(book, ('home',))]
[1, 1, True, False, False]
>>> [links_out(book, ('a',)), links_in(book, ('a',)), links_out(book, ('a', 'b')), rooms_of(book, ('a',)), puts_of(book, ('a', 'b'))]
[(0,), (2,), (1,), 4, 3]
"""

SECTION_5 = r"""
>>> from downhillnet.books import Book
>>> from downhillnet.weather import calm, finished, first_bad, is_tick, may_come, rough, windows_in, windows_many
>>> book = Book('net 2 0 1\ngoal g\nstation a 0 3\nlink a g 2 1')
>>> [is_tick(book, ((1,), (0,), (1,))), is_tick(book, ((1,), (0, 0), (1,))), is_tick(book, ((1,), (), (2,))), is_tick(book, None)]
[True, False, False, False]
>>> one = ((1,), (), (0,))
>>> [first_bad(book, (one, ((2,), (0,), (0,)))), first_bad(book, (one, ((3,), (0,), (0,)))), first_bad(book, (one, one))]
[None, 1, 1]
>>> [may_come(book, ()), may_come(book, (one,)), windows_in(book, (one,)), finished(book, (one,))]
[((3,), ()), ((2,), (0,)), (0, 1), (((1,), (), (0,)), ((0,), (0,), (0,)))]
>>> [calm(book), rough(book), windows_many(book)]
[(((0,), (0,), (0,)), ((0,), (), (0,))), (((3,), (), (1,)), ((0,), (0,), (1,))), 120]
"""

SECTION_6 = r"""
>>> from downhillnet.books import Book
>>> from downhillnet.runs import heaps_of, most_in, passes_of, played, Run, run_from
>>> book = Book('net 2 0 1\ngoal g\nstation a 0 2\nstation b 0 1\nlink a b 2 1\nlink b g 2 2\nlink a g 1 1')
>>> ticks = (((2, 0), (0, 1, 2), (0, 0, 0)), ((0, 1), (1,), (0, 0, 0)))
>>> [played(book, ticks), heaps_of(book, ticks), passes_of(book, ticks), most_in(book, ticks, ('a', 'b'))]
[((0, 1), 2), ((0, 0), (0, 2), (0, 1)), ((2, 0, 0), (0, 2, 0)), 2]
>>> run = Run(book)
>>> [run.go_on(tick) for tick in ticks]
[(2, 0, 0), (0, 2, 0)]
>>> other = run.copy()
>>> [run.go_on(((2, 0), (0,), (1, 0, 0))), other.go_on(((2, 0), (0,), (0, 0, 0)))]
[(0, 0, 0), (2, 0, 0)]
>>> [run.heaps, other.heaps, run.home, other.passed, run.tick, run.window]
[(2, 1), (0, 3), 2, (4, 2, 0), 3, 1]
>>> later = run_from(book, (3, 3))
>>> [later.go_on(((1, 0), (0, 1), (1, 0, 0))), later.heaps, later.home]
[(2, 2, 0), (2, 3), 2]
"""

SECTION_7 = r"""
>>> from downhillnet.books import Book
>>> from downhillnet.flows import excess, greatest_worst, has_flow, is_cut, is_flow, judged, least_worst, shows_judged, spare, spare_of, worst_excess
>>> text = 'net 4 3 1\ngoal home\nstation a 0 3\nstation b 0 2\nlink a b 2 3\nlink a home 1 1\nlink b home 3 2'
>>> book = Book(text)
>>> [is_flow(book, (2, 1, 4)), is_flow(book, (3, 0, 5)), is_flow(book, (3, 1, 5)), has_flow(book), is_cut(book, ('a', 'b'))]
[True, True, False, True, False]
>>> [excess(book, ('a',)), excess(book, ('b',)), excess(book, ('a', 'b')), worst_excess(book), least_worst(book)]
[-4, -4, -2, -2, None]
>>> [spare(book, 'a'), spare(book, 'b'), spare_of(book, ('a', 'b'))]
[2, 2, 2]
>>> full = Book(text.replace('station b 0 2', 'station b 0 5'))
>>> [judged(full), shows_judged(full, ('cut', ('b',))), worst_excess(full), least_worst(full), greatest_worst(full)]
[('cut', ('a', 'b')), False, 1, ('a', 'b'), ('a', 'b')]
"""

SECTION_8 = r"""
>>> from downhillnet.books import Book
>>> from downhillnet.bounds import heap_bound, lot_bound
>>> from downhillnet.worst import shows_worst_weather, standings_many, worst_lot, worst_weather
>>> book = Book('net 2 0 0\ngoal g\nstation a 0 1\nlink a g 1 1')
>>> [heap_bound(book), standings_many(book, 100), worst_lot(book, ('a',), 100), len(worst_weather(book, ('a',), 100))]
[8, 9, 2, 3]
>>> late = (((0,), (0,), (0,)), ((1,), (), (0,)), ((1,), (), (0,)))
>>> [shows_worst_weather(book, ('a',), 9, late), shows_worst_weather(book, ('a',), 9, late[1:])]
[True, False]
>>> two = Book('net 1 0 0\ngoal g\nstation a 0 1\nstation b 0 0\nlink a b 1 1\nlink b g 1 1')
>>> [[lot_bound(two, many) for many in (0, 1, 2)], [worst_lot(two, names, 100) for names in (('a',), ('b',), ('a', 'b'))]]
[[0, 22, 31], [1, 1, 2]]
"""


class Examples(unittest.TestCase):

    def as_told(self, text, many):
        """All of so many lines of the example return what stands behind them."""
        test = doctest.DocTestParser().get_doctest(text, {}, "example", None, 0)
        told = []
        result = doctest.DocTestRunner(verbose=False).run(test, out=told.append)
        self.assertEqual((result.failed, result.attempted), (0, many), "".join(told))

    def test_section_4(self):
        self.as_told(SECTION_4, 7)

    def test_section_5(self):
        self.as_told(SECTION_5, 8)

    def test_section_6(self):
        self.as_told(SECTION_6, 12)

    def test_section_7(self):
        self.as_told(SECTION_7, 9)

    def test_section_8(self):
        self.as_told(SECTION_8, 9)


if __name__ == "__main__":
    unittest.main()
