"""The examples in code of the document, to the letter."""

import doctest
import unittest

SECTION_4 = r"""
>>> from downhillnet.books import Book, book_text, is_lot, link_number, links_in, links_out, puts_of, rooms_of, station_number
>>> text = 'net 4 0 1\ngoal home\nstation a 2 3\nstation b 1 0\nlink a b 2 2\nlink b home 1 3\nlink b a 1 0'
>>> book = Book(text)
>>> [book.window, book.margin, book.late, book.goal, book.stations, len(book)]
[4, 0, 1, 'home', (('a', 2, 3), ('b', 1, 0)), 2]
>>> [book.links, book_text(4, 0, 1, 'home', book.stations, book.links) == text, book == Book(text)]
[(('a', 'b', 2, 2), ('b', 'home', 1, 3), ('b', 'a', 1, 0)), True, True]
>>> [station_number(book, 'b'), link_number(book, 'b', 'home'), is_lot(book, ('a', 'b')), is_lot(book, ('b', 'a')), is_lot(book, ('home',))]
[1, 1, True, False, False]
>>> [links_out(book, ('a',)), links_in(book, ('a',)), links_out(book, ('a', 'b')), rooms_of(book, ('a',)), puts_of(book, ('a', 'b'))]
[(0,), (2,), (1,), 4, 3]
"""

SECTION_5 = r"""
>>> from downhillnet.books import Book
>>> from downhillnet.weather import calm, finished, first_bad, is_tick, may_come, rough, windows_in, windows_many
>>> book = Book('net 2 0 1\ngoal g\nstation a 0 3\nlink a g 2 1')
>>> [is_tick(book, ((1,), (0,), (1,))), is_tick(book, ((1,), (0, 0), (1,))), is_tick(book, ((1,), (), (2,))), is_tick(book, None)]
[True, False, False, False]
>>> one = ((1,), (), (0,))
>>> [first_bad(book, (one, ((2,), (0,), (0,)))), first_bad(book, (one, ((3,), (0,), (0,)))), first_bad(book, (one, one))]
[None, 1, 1]
>>> [may_come(book, ()), may_come(book, (one,)), windows_in(book, (one,)), finished(book, (one,))]
[((3,), ()), ((2,), (0,)), (0, 1), (((1,), (), (0,)), ((0,), (0,), (0,)))]
>>> [calm(book), rough(book), windows_many(book)]
[(((0,), (0,), (0,)), ((0,), (), (0,))), (((3,), (), (1,)), ((0,), (0,), (1,))), 120]
"""


class Examples(unittest.TestCase):

    def as_told(self, text, many):
        """All of so many lines of the example return what stands behind them."""
        test = doctest.DocTestParser().get_doctest(text, {}, "example", None, 0)
        told = []
        result = doctest.DocTestRunner(verbose=False).run(test, out=told.append)
        self.assertEqual((result.failed, result.attempted), (0, many), "".join(told))

    def test_section_4(self):
        self.as_told(SECTION_4, 7)

    def test_section_5(self):
        self.as_told(SECTION_5, 8)


if __name__ == "__main__":
    unittest.main()
