import random
import unittest

from downhillnet.books import Book
from downhillnet.bounds import heap_bound, lot_bound
from downhillnet.errors import BadNumber
from downhillnet.flows import has_flow
from downhillnet.runs import heaps_of
from downhillnet.weather import calm, first_bad, rough
from tests.tools import TEXT, Case, any_values, some_books, some_weather

GREAT = Book(
    "net 5 7 3\ngoal g\nstation a 20 11\nstation b 90 0\nstation c 4 13\nlink a b 2 1\nlink b c 30 0\nlink c g 500 5"
)


def told_bound(book, many):
    """The bound for so many stations, letter by letter."""
    n = len(book.stations)
    c = sum(link[2] for link in book.links)
    a = sum(put for _, _, put in book.stations)
    l = max(level for _, level, _ in book.stations)
    m = book.window * c + a
    e = book.late * (c + a)
    g = book.margin + 4 * m + e + l + 1
    return sum(book.margin + 2 * m + c + 1 + (n - k) * g for k in range(1, many + 1))


class Bounds(Case):

    def test_by_hand(self):
        # C is 532, A is 24, L is 90: M is 2684, E is 1668, G is 12502.
        one, two, three = 7 + 5368 + 532 + 1 + 25004, 7 + 5368 + 532 + 1 + 12502, 7 + 5368 + 532 + 1
        told = [lot_bound(GREAT, many) for many in range(4)]
        self.same(told, [0, one, one + two, one + two + three])
        self.same(heap_bound(GREAT), one)

    def test_beside_the_document(self):
        for book in [GREAT, Book(TEXT), *some_books(random.Random(1), 60)]:
            for many in range(len(book) + 1):
                self.same(lot_bound(book, many), told_bound(book, many))
            self.same(heap_bound(book), told_bound(book, 1))

    def test_without_links(self):
        book = Book("net 3 2 1\ngoal g\nstation a 5 0")
        self.same([lot_bound(book, 0), lot_bound(book, 1), heap_bound(book)], [0, 3, 3])

    def test_the_greatest_book(self):
        names = "abcdefghijklmnopqrst"
        lines = ["net 40 10000000 20", "goal home", *[f"station {name} 300000000 1000000" for name in names]]
        pairs = [(one, other) for one in names for other in names if one != other]
        book = Book("\n".join([*lines, *[f"link {one} {other} 1000 40" for one, other in pairs[:60]]]))
        self.same([lot_bound(book, many) for many in (1, 20)], [told_bound(book, 1), told_bound(book, 20)])

    def test_bad_numbers(self):
        for book in (GREAT, Book("net 1 0 0\ngoal g\nstation a 0 0")):
            for value in [-1, len(book) + 1, True, False, "1", (1,), [1], *any_values()]:
                with self.subTest(value=value):
                    with self.assertRaises(BadNumber) as caught:
                        lot_bound(book, value)
                    self.assertIs(caught.exception.value, value)


class Promise(Case):
    """With a flow, heaps stay within the bounds."""

    def kept(self, book, ticks):
        """No lot holds more than its bound at the beginning of a window, and than that and M at other ticks."""
        self.assertIsNone(first_bad(book, ticks))
        moved = book.window * sum(link[2] for link in book.links) + sum(row[2] for row in book.stations)
        bounds = [told_bound(book, many) for many in range(len(book) + 1)]
        for number, heaps in enumerate(heaps_of(book, ticks)):
            more = moved if number % book.window else 0
            for many in range(len(book) + 1):
                self.assertLessEqual(sum(sorted(heaps)[len(book) - many:]), lot_bound(book, many) + more)
                self.assertEqual(lot_bound(book, many), bounds[many])

    def test_in_all_kinds_of_weather(self):
        chance = random.Random(2)
        seen = 0
        for book in some_books(chance, 150):
            if has_flow(book):
                self.kept(book, rough(book) * 30)
                self.kept(book, (rough(book) + calm(book)) * 20)
                self.kept(book, some_weather(chance, book, 40))
                seen += 1
        self.assertGreater(seen, 20)

    def test_at_the_border_for_long(self):
        # All that can be carried is put in, over two stations, heard late, with a margin.
        book = Book("net 3 2 2\ngoal g\nstation a 1 2\nstation b 5 1\nlink a b 1 2\nlink b a 1 0\nlink b g 1 3")
        self.kept(book, rough(book) * 600)
        self.kept(book, some_weather(random.Random(3), book, 600))

    def test_with_a_cut_what_lies_there_grows_beyond(self):
        book = Book("net 2 0 0\ngoal g\nstation a 0 2\nlink a g 1 1")
        bound = lot_bound(book, 1)
        heaps = heaps_of(book, rough(book) * 2 * bound)
        self.assertGreater(heaps[-1][0], bound)


if __name__ == "__main__":
    unittest.main()
