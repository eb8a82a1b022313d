import itertools
import random
import unittest
from fractions import Fraction

from downhillnet.books import Book, book_text
from downhillnet.errors import BadNumber, NoFlow, NoStation
from downhillnet.flows import excess, has_flow, spare
from downhillnet.needs import least_open, least_window, needful, scale, shows_scale, worth
from tests.tools import TEXT, Case, all_lots, any_values, some_books

FORK = Book("net 2 0 1\ngoal g\nstation a 0 2\nstation b 0 1\nlink a b 2 1\nlink b g 2 2\nlink a g 1 1")


def told_flow(book):
    """Whether there is a flow: no lot gets more than leads out of it."""
    return all(told_out(book, lot) >= told_put(book, lot) for lot in all_lots(book))


def told_out(book, lot):
    """The carriages of all links out of a lot."""
    return sum(room * times for one, other, room, times in book.links if one in lot and other not in lot)


def told_put(book, lot):
    """The puts of a lot."""
    return sum(put for name, _, put in book.stations if name in lot)


def with_times(book, number, times):
    """The book in which a link is open so many times."""
    links = list(book.links)
    links[number] = (*links[number][:3], times)
    return Book(book_text(book.window, book.margin, book.late, book.goal, book.stations, tuple(links)))


def with_puts(book, add):
    """The book in which so much more is put in at the stations, one after the other."""
    stations = tuple((name, level, put + more) for (name, level, put), more in zip(book.stations, add))
    return Book(book_text(book.window, book.margin, book.late, book.goal, stations, book.links))


def all_books():
    """Small books: with a flow, with one packet above one, with much above."""
    books = some_books(random.Random(1), 150)
    for book in list(books):
        if has_flow(book):
            name = book.stations[0][0]
            much = spare(book, name)
            rest = (0,) * (len(book) - 1)
            books += [with_puts(book, (much, *rest)), with_puts(book, (much + 1, *rest))]
    return [*books, FORK, Book(TEXT)]


class LeastOpen(Case):

    def test_beside_a_going_through_all_lots(self):
        kinds = set()
        for book in all_books():
            needed = []
            for number in range(len(book.links)):
                right = [times for times in range(book.window + 1) if told_flow(with_times(book, number, times))]
                told = min(right) if right else None
                self.same(least_open(book, number), told)
                self.assertEqual(right, [] if told is None else list(range(told, book.window + 1)))
                if not told_flow(with_times(book, number, 0)):
                    needed.append(number)
                kinds.add((told is None, told == 0, has_flow(book)))
                self.assertIs(number not in needed, told == 0)
            self.same(needful(book), tuple(needed))
            if not has_flow(book):
                self.assertEqual(needed, list(range(len(book.links))))
        self.assertEqual(kinds, {(True, False, False), (False, True, True), (False, False, True), (False, False, False)})

    def test_the_window_is_the_most(self):
        for put, told in ((0, 0), (1, 1), (2, 1), (3, 2), (6, 3), (7, None)):
            book = Book(f"net 3 0 0\ngoal g\nstation a 0 {put}\nlink a g 2 1")
            self.same([least_open(book, 0), needful(book)], [told, () if told == 0 else (0,)])

    def test_a_link_can_be_needed_though_it_is_never_open(self):
        book = Book("net 2 0 0\ngoal g\nstation a 0 1\nlink a g 1 0")
        self.same([least_open(book, 0), needful(book), has_flow(book)], [1, (0,), False])
        book = Book("net 2 0 0\ngoal g\nstation a 0 1\nstation b 0 9\nlink a g 1 0")
        self.same([least_open(book, 0), needful(book)], [None, (0,)])

    def test_without_links(self):
        self.same(needful(Book("net 2 0 0\ngoal g\nstation a 0 1")), ())

    def test_bad_numbers(self):
        for value in [-1, 3, 10 ** 30, True, False, "0", None, (0,), [0], *any_values()]:
            for call in (least_open, lambda book, number: worth(book, number, None)):
                with self.assertRaises(BadNumber) as caught:
                    call(FORK, value)
                self.assertIs(caught.exception.value, value)
        bare = Book("net 2 0 0\ngoal g\nstation a 0 1")
        self.refused(BadNumber, 0, least_open, bare, 0)


class Scale(Case):

    def fractions(self, book):
        """For each lot with puts the fraction that it allows."""
        return {
            lot: Fraction(told_out(book, lot), told_put(book, lot)) for lot in all_lots(book) if told_put(book, lot) > 0
        }

    def test_beside_the_least_of_all_lots(self):
        kinds = set()
        for book in all_books():
            told = self.fractions(book)
            if not told:
                self.assertIsNone(scale(book))
                self.assertIs(shows_scale(book, None), True)
                self.assertIs(shows_scale(book, (0, 1, ("a",))), False)
                kinds.add(None)
                continue
            least = min(told.values())
            top, bottom, names = value = scale(book)
            self.same((value.__class__, (top, bottom)), (tuple, (least.numerator, least.denominator)))
            self.assertEqual(told[names], least)
            self.assertIs(told_flow(book), least >= 1)
            self.assertIs(has_flow(book), least >= 1)
            self.shown(book, top, bottom, told)
            kinds.add((least > 0, least >= 1, least.denominator > 1))
        self.assertEqual(kinds, {
            None, (False, False, False), (True, False, True), (True, True, False), (True, True, True)})

    def shown(self, book, top, bottom, told):
        """Just the lots with this fraction are shown, and no other fraction."""
        self.assertIs(shows_scale(book, None), False)
        for lot in all_lots(book):
            right = lot in told and told[lot] == Fraction(top, bottom)
            self.assertIs(shows_scale(book, (top, bottom, lot)), right)
            for other in ((2 * top, 2 * bottom), (top + 1, bottom), (top, bottom + 1), (-top, -bottom), (bottom, top)):
                self.assertIs(shows_scale(book, (*other, lot)), right and other == (top, bottom))

    def test_nothing_is_borne(self):
        book = Book("net 2 0 0\ngoal g\nstation a 0 4\nstation b 0 0\nlink a g 9 0\nlink b g 1 1")
        self.same(scale(book), (0, 1, ("a",)))
        for value, right in (
            ((0, 1, ("a",)), True), ((0, 2, ("a",)), False), ((0, 4, ("a",)), False), ((False, 1, ("a",)), False),
            ((0, True, ("a",)), False), ((0, 1, ("b",)), False), ((0, 1, ("a", "b")), False), ((0, 1, ()), False),
        ):
            self.assertIs(shows_scale(book, value), right)

    def test_lots_without_a_put(self):
        book = Book("net 1 0 0\ngoal g\nstation a 0 1\nstation b 0 0\nlink a g 1 1")
        self.same(scale(book)[:2], (1, 1))
        shown = [shows_scale(book, (1, 1, lot)) for lot in (("a",), ("b",), ("a", "b"), ())]
        self.same(shown, [True, False, True, False])

    def test_lowest_terms(self):
        book = Book("net 1 0 0\ngoal g\nstation a 0 6\nlink a g 4 1")
        self.same(scale(book), (2, 3, ("a",)))
        for value in ((4, 6, ("a",)), (2, 3, ["a"]), [2, 3, ("a",)], (2, 3), (2, 3, ("a",), 1), (2, 3, ("b",)), (2, 3, "a"),
                      ("2", 3, ("a",)), (None, 3, ("a",)), (2, 3, None), None, *any_values()):
            self.assertIs(shows_scale(book, value), False)

    def test_true_is_no_number(self):
        book = Book("net 1 0 0\ngoal g\nstation a 0 1\nlink a g 1 1")
        for value, right in (((1, 1, ("a",)), True), ((True, 1, ("a",)), False), ((1, True, ("a",)), False)):
            self.assertIs(shows_scale(book, value), right)

    def test_nothing_is_put_in(self):
        book = Book("net 1 0 0\ngoal g\nstation a 0 0\nlink a g 1 1")
        for value in [*any_values(), (0, 1, ("a",)), (1, 0, ("a",)), False]:
            self.assertIs(shows_scale(book, value), value is None)
        self.assertIsNone(scale(book))

    def test_great_books(self):
        chance = random.Random(2)
        names = "abcdefghijklmnopqrst"
        for _ in range(10):
            lines = ["net 40 0 0", "goal z", *[f"station {name} 0 {chance.randint(0, 10 ** 6)}" for name in names]]
            pairs = chance.sample([(one, other) for one in names for other in [*names, "z"] if one != other], 60)
            lines += [f"link {one} {other} {chance.randint(1, 1000)} {chance.randint(0, 40)}" for one, other in pairs]
            book = Book("\n".join(lines))
            top, bottom, names_of = scale(book)
            self.assertIs(shows_scale(book, (top, bottom, names_of)), True)
            self.assertIs(has_flow(book), top >= bottom)
            if top < bottom:
                self.assertGreater(excess(book, names_of), 0)


class Worth(Case):

    def told(self, book, name):
        """By how much more the put of this station could be, by all lots with it."""
        return min(told_out(book, lot) - told_put(book, lot) for lot in all_lots(book) if name in lot)

    def test_beside_the_difference_of_two_spares(self):
        kinds = set()
        for book in all_books():
            if not told_flow(book):
                continue
            for number, (_, _, room, times) in enumerate(book.links):
                for name, _, _ in book.stations:
                    told = None
                    if times < book.window:
                        told = self.told(with_times(book, number, times + 1), name) - self.told(book, name)
                        self.assertTrue(0 <= told <= room)
                    self.same(worth(book, number, name), told)
                    kinds.add(None if told is None else min(told, 2))
        self.assertEqual(kinds, {None, 0, 1, 2})

    def test_the_errors_in_their_order(self):
        over = Book(FORK.text.replace("station a 0 2", "station a 0 9"))
        for value in ["g", "c", ("a",), *any_values()]:
            self.refused(BadNumber, 3, worth, over, 3, value)
            # Of a link that is always open, too.
            for number in (0, 1):
                for book in (FORK, over):
                    with self.assertRaises(NoStation) as caught:
                        worth(book, number, value)
                    self.assertIs(caught.exception.value, value)
        for number in (0, 1):
            with self.assertRaises(NoFlow) as caught:
                worth(over, number, "b")
            self.assertGreater(excess(over, caught.exception.value), 0)
        self.same([worth(FORK, 0, "b"), worth(FORK, 1, "b")], [0, None])


class LeastWindow(Case):

    def test_beside_a_going_through_all_windows(self):
        kinds = set()
        for book in all_books():
            told = None
            for window in range(40, 0, -1):
                links = tuple((*link[:3], window) for link in book.links)
                if told_flow(Book(book_text(window, book.margin, book.late, book.goal, book.stations, links))):
                    told = window
            self.same(least_window(book), told)
            kinds.add(told)
        self.assertLessEqual({None, 1, 2, 3}, kinds)

    def test_at_the_bounds(self):
        for put, told in ((0, 1), (1, 1), (2, 1), (3, 2), (80, 40), (81, None)):
            for times in (0, 2):
                book = Book(f"net 7 0 0\ngoal g\nstation a 0 {put}\nlink a g 2 {times}")
                self.same(least_window(book), told)
        self.assertIsNone(least_window(Book("net 7 0 0\ngoal g\nstation a 0 1")))
        self.same(least_window(Book("net 7 0 0\ngoal g\nstation a 0 0")), 1)

    def test_puts_stay_for_a_window(self):
        rows = itertools.product((1, 5), (1, 3), (0, 4, 8))
        for room, window, put in rows:
            book = Book(f"net {window} 0 0\ngoal g\nstation a 0 {put}\nlink a g {room} 1")
            self.same(least_window(book), max(1, -(-put // room)))


if __name__ == "__main__":
    unittest.main()
