import itertools
import unittest

from downhillnet.books import (
    Book, is_lot, link_number, links_in, links_out, puts_of, rooms_of, station_number,
)
from downhillnet.errors import BadLot, NoLink, NoStation
from tests.tools import TEXT, Case, any_values

BOOK = Book(TEXT)
WIDE = Book(
    "net 5 0 1\ngoal home\nstation d 0 1\nstation b 0 20\nstation c 0 300\nstation a 0 4000\n"
    "link a b 1 5\nlink b c 2 4\nlink c home 3 3\nlink c a 4 2\n"
    "link d home 5 1\nlink b a 6 5\nlink a d 7 0\nlink d c 8 1"
)


class Numbers(Case):

    def test_station_number(self):
        self.same([station_number(WIDE, name) for name in "dbca"], [0, 1, 2, 3])

    def test_no_station(self):
        for name in ["home", "c", "ab", 0, 1, ("a",), *any_values()]:
            with self.subTest(name=name):
                self.refused(NoStation, name, station_number, BOOK, name)

    def test_link_number(self):
        for number, link in enumerate(WIDE.links):
            self.same(link_number(WIDE, link[0], link[1]), number)

    def test_no_link_with_the_pair(self):
        for pair in [("a", "home"), ("a", "a"), ("home", "a"), ("home", "b"), ("a", "c"), ("c", "a"), (0, 1), ("", "")]:
            with self.subTest(pair=pair):
                self.refused(NoLink, pair, link_number, BOOK, *pair)

    def test_no_link_of_any_values(self):
        for value in any_values():
            with self.subTest(value=value):
                self.refused(NoLink, (value, "home"), link_number, BOOK, value, "home")
                self.refused(NoLink, ("b", value), link_number, BOOK, "b", value)
                self.refused(NoLink, (value, value), link_number, BOOK, value, value)


class Lots(Case):

    def test_what_is_a_lot(self):
        for many in range(5):
            for names in itertools.product("abcd", repeat=many):
                with self.subTest(names=names):
                    self.assertIs(is_lot(WIDE, names), all(x < y for x, y in zip(names, names[1:])))

    def test_what_is_no_lot(self):
        values = ["a", "", ["a"], [], {"a": 1}, {}, ("home",), ("a", "home"), ("x",), ("a", 1), (1,), (True,), (None,)]
        values += [("b", "a"), ("a", "a"), (("a",),), (["a"],), ("a", None), ("a", "b", "b"), ("",), ("A",)]
        for value in [*values, *any_values()]:
            with self.subTest(value=value):
                self.assertIs(is_lot(BOOK, value), False)

    def test_bad_lot(self):
        values = ["a", ["a"], ("home",), ("a", "home"), ("b", "a"), ("a", "a"), ("x",), (1,), *any_values()]
        for call in (links_out, links_in, rooms_of, puts_of):
            for value in values:
                with self.subTest(call=call, value=value):
                    with self.assertRaises(BadLot) as caught:
                        call(BOOK, value)
                    self.assertIs(caught.exception.value, value)

    def test_no_stations(self):
        self.same([links_out(WIDE, ()), links_in(WIDE, ()), rooms_of(WIDE, ()), puts_of(WIDE, ())], [(), (), 0, 0])

    def test_all_stations(self):
        names = ("a", "b", "c", "d")
        self.same([links_out(WIDE, names), links_in(WIDE, names)], [(2, 4), ()])
        self.same([rooms_of(WIDE, names), puts_of(WIDE, names)], [3 * 3 + 5 * 1, 4321])

    def test_some_stations(self):
        self.same([links_out(WIDE, ("a",)), links_in(WIDE, ("a",))], [(0, 6), (3, 5)])
        self.same([rooms_of(WIDE, ("a",)), puts_of(WIDE, ("a",))], [5, 4000])
        self.same([links_out(WIDE, ("b", "c")), links_in(WIDE, ("b", "c"))], [(2, 3, 5), (0, 7)])
        self.same([rooms_of(WIDE, ("b", "c")), puts_of(WIDE, ("b", "c"))], [9 + 8 + 30, 320])

    def test_lots_of_a_book_without_links(self):
        book = Book("net 1 0 0\ngoal g\nstation a 0 7")
        self.same([links_out(book, ("a",)), links_in(book, ("a",)), rooms_of(book, ("a",))], [(), (), 0])
        self.same(puts_of(book, ("a",)), 7)

    def test_what_comes_out_of_a_lot_does_not_come_into_it(self):
        for many in range(5):
            for names in itertools.combinations("abcd", many):
                rest = tuple(name for name in "abcd" if name not in names)
                home = tuple(number for number in links_out(WIDE, names) if WIDE.links[number][1] == "home")
                between = tuple(number for number in links_out(WIDE, names) if number not in home)
                self.assertEqual(between, links_in(WIDE, rest))


if __name__ == "__main__":
    unittest.main()
