import unittest

from downhillnet.books import Book, book_text
from downhillnet.errors import BadLinks, BadName, BadNumber, BadStations
from tests.tools import TEXT, Case, any_values

STATIONS = (("a", 2, 3), ("b", 1, 0))
LINKS = (("a", "b", 2, 2), ("b", "home", 1, 3), ("b", "a", 1, 0))
GOOD = (4, 0, 1, "home", STATIONS, LINKS)
WRONG_NAMES = ["", "A", "ninechars", "a1", "a b", 1, None, True, ["a"], ("a",), {"a": 1}, Book(TEXT)]


def wrong_numbers(least, most):
    return [least - 1, most + 1, True, False, None, str(least), "", [least], (least,), {least: least}, Book(TEXT)]


class Told(Case):

    def test_the_text_of_a_book(self):
        self.same(book_text(*GOOD), TEXT)

    def test_numbers_at_their_bounds(self):
        for head in ((1, 0, 0), (40, 10000000, 20)):
            for station in (("a", 0, 0), ("a", 300000000, 1000000)):
                for link in (("a", "home", 1, 0), ("a", "home", 1000, head[0])):
                    book = Book(book_text(*head, "home", (station,), (link,)))
                    self.same((book.window, book.margin, book.late), head)
                    self.same((book.stations, book.links), ((station,), (link,)))

    def test_as_many_as_there_may_be(self):
        names = [letter * 8 for letter in "abcdefghijklmnopqrst"]
        stations = tuple((name, 1, 1) for name in names)
        pairs = [(one, other) for one in names for other in names if one != other]
        links = tuple((one, other, 1, 1) for one, other in pairs[:60])
        book = Book(book_text(1, 0, 0, "g", stations, links))
        self.same((book.stations, book.links), (stations, links))
        more = (*stations, ("u", 1, 1))
        self.refused(BadStations, more, book_text, 1, 0, 0, "g", more, links)
        more = (*links, (*pairs[60], 1, 1))
        self.refused(BadLinks, more, book_text, 1, 0, 0, "g", stations, more)


class Refused(Case):

    def bad(self, error, place, value, *others):
        """With this value in this place, and others wrong too in later ones, the error keeps just this value."""
        parts = list(GOOD)
        parts[place] = value
        for at, other in others:
            parts[at] = other
        with self.subTest(place=place, value=value, others=others):
            with self.assertRaises(error) as caught:
                book_text(*parts)
            self.assertIs(caught.exception.__class__, error)
            self.assertIs(caught.exception.value, value)

    def test_numbers_of_the_head(self):
        for place, least, most in ((0, 1, 40), (1, 0, 10000000), (2, 0, 20)):
            for value in wrong_numbers(least, most):
                self.bad(BadNumber, place, value)

    def test_goal(self):
        for value in [*WRONG_NAMES, *any_values()]:
            self.bad(BadName, 3, value)

    def test_stations_of_any_kind(self):
        for value in [*any_values(), (), "a", 1, list(STATIONS), [list(part) for part in STATIONS], {"a": STATIONS}]:
            self.bad(BadStations, 4, value)

    def test_each_part_of_a_station(self):
        first = STATIONS[0]
        for name in ["home", "a", *WRONG_NAMES]:
            self.bad(BadStations, 4, (first, (name, 1, 0)))
        for level in wrong_numbers(0, 300000000):
            self.bad(BadStations, 4, (first, ("b", level, 0)))
        for put in wrong_numbers(0, 1000000):
            self.bad(BadStations, 4, (first, ("b", 1, put)))
        for part in [["b", 1, 0], ("b", 1), ("b", 1, 0, 0), "b", None, (), ("b",)]:
            self.bad(BadStations, 4, (first, part))
            self.bad(BadStations, 4, (part, first))

    def test_links_of_any_kind(self):
        for value in [*any_values(), "a", 1, list(LINKS), tuple(list(part) for part in LINKS), {"a": LINKS}]:
            self.bad(BadLinks, 5, value)

    def test_each_part_of_a_link(self):
        first = LINKS[0]
        for name in ["home", "c", *WRONG_NAMES]:
            self.bad(BadLinks, 5, (first, (name, "a", 1, 1)))
        for name in ["b", "c", *WRONG_NAMES]:
            self.bad(BadLinks, 5, (first, ("b", name, 1, 1)))
        for room in wrong_numbers(1, 1000):
            self.bad(BadLinks, 5, (first, ("b", "a", room, 1)))
        for times in wrong_numbers(0, 4):
            self.bad(BadLinks, 5, (first, ("b", "a", 1, times)))
        for part in [["b", "a", 1, 1], ("b", "a", 1), ("b", "a", 1, 1, 1), ("a", "b", 3, 3), "b", None, ()]:
            self.bad(BadLinks, 5, (first, part))
        for part in [["b", "a", 1, 1], ("b", "a", 1), "b", None, ()]:
            self.bad(BadLinks, 5, (part, first))

    def test_links_of_other_stations(self):
        self.bad(BadLinks, 5, LINKS, (4, STATIONS[:1]))
        self.bad(BadLinks, 5, LINKS, (3, "away"))
        self.bad(BadLinks, 5, LINKS, (0, 2))

    def test_the_first_of_several(self):
        wrong = [(0, 0), (1, -1), (2, 21), (3, "X"), (4, ()), (5, [])]
        errors = [BadNumber, BadNumber, BadNumber, BadName, BadStations, BadLinks]
        for at, (place, value) in enumerate(wrong):
            self.bad(errors[at], place, value, *wrong[at + 1:])

    def test_stations_named_like_the_goal(self):
        self.bad(BadStations, 4, STATIONS, (3, "a"))
        self.bad(BadStations, 4, (("a", 1, 1), ("home", 1, 1)), (5, ()))


if __name__ == "__main__":
    unittest.main()
