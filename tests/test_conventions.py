"""What is told of all functions: names, parameters, equal calls, errors, arguments that are not changed."""

import copy
import importlib
import inspect
import unittest

from downhillnet.books import (
    Book, book_text, is_lot, link_number, links_in, links_out, puts_of, rooms_of, station_number,
)
from downhillnet.bounds import heap_bound, lot_bound
from downhillnet.errors import BadBook, BadLot, BadStations, BadTicks, NoFlow, NoLink, NoStation
from downhillnet.flows import (
    excess, greatest_worst, has_flow, is_cut, is_flow, judged, least_worst, shares, shows_judged, shows_shares, spare,
    spare_of, worst_excess,
)
from downhillnet.runs import Run, heaps_of, most_in, passes_of, played, run_from
from downhillnet.values import is_between, is_integer, is_name, number_of
from downhillnet.weather import calm, finished, first_bad, is_tick, may_come, rough, windows_in, windows_many
from downhillnet.worst import shows_worst_weather, standings_many, worst_lot, worst_weather
from tests.tools import TEXT, Case, any_values, nested

PARAMETERS = {
    "books": {
        "Book": ["text"],
        "book_text": ["window", "margin", "late", "goal", "stations", "links"],
        "station_number": ["book", "name"],
        "link_number": ["book", "one", "other"],
        "is_lot": ["book", "value"],
        "links_out": ["book", "names"],
        "links_in": ["book", "names"],
        "rooms_of": ["book", "names"],
        "puts_of": ["book", "names"],
    },
    "weather": {
        "is_tick": ["book", "value"],
        "first_bad": ["book", "value"],
        "may_come": ["book", "ticks"],
        "windows_in": ["book", "ticks"],
        "calm": ["book"],
        "rough": ["book"],
        "finished": ["book", "ticks"],
        "windows_many": ["book"],
    },
    "runs": {
        "Run": ["book"],
        "run_from": ["book", "heaps"],
        "played": ["book", "ticks"],
        "heaps_of": ["book", "ticks"],
        "passes_of": ["book", "ticks"],
        "most_in": ["book", "ticks", "names"],
    },
    "flows": {
        "excess": ["book", "names"],
        "is_flow": ["book", "value"],
        "is_cut": ["book", "value"],
        "judged": ["book"],
        "shows_judged": ["book", "value"],
        "has_flow": ["book"],
        "worst_excess": ["book"],
        "least_worst": ["book"],
        "greatest_worst": ["book"],
        "spare": ["book", "name"],
        "spare_of": ["book", "names"],
        "shares": ["book", "names"],
        "shows_shares": ["book", "names", "value"],
    },
    "bounds": {
        "lot_bound": ["book", "many"],
        "heap_bound": ["book"],
    },
    "worst": {
        "standings_many": ["book", "most"],
        "worst_lot": ["book", "names", "most"],
        "worst_weather": ["book", "names", "most"],
        "shows_worst_weather": ["book", "names", "most", "value"],
    },
}
METHODS = {
    "runs": {"Run": {"go_on": ["self", "tick"], "copy": ["self"]}},
}
SHORT = "net 2 0 0\ngoal g\nstation a 0 1\nlink a g 1 1"
TICKS = (((1, 0), (0, 1), (0, 1, 0)), ((0, 0), (1,), (0, 0, 0)))


class Interface(Case):

    def test_parameters_have_the_names_of_the_document(self):
        for file, told in PARAMETERS.items():
            for name, parameters in told.items():
                with self.subTest(file=file, name=name):
                    made = getattr(importlib.import_module("downhillnet." + file), name)
                    self.assertEqual(list(inspect.signature(made).parameters), parameters)

    def test_each_is_defined_in_its_file(self):
        for file, told in PARAMETERS.items():
            for name in told:
                with self.subTest(file=file, name=name):
                    made = getattr(importlib.import_module("downhillnet." + file), name)
                    self.assertEqual((made.__module__, made.__name__), ("downhillnet." + file, name))

    def test_methods_are_defined_in_the_class_with_the_parameters_of_the_document(self):
        for file, classes in METHODS.items():
            for name, told in classes.items():
                made = vars(getattr(importlib.import_module("downhillnet." + file), name))
                for method, parameters in told.items():
                    with self.subTest(file=file, name=name, method=method):
                        self.assertEqual(list(inspect.signature(made[method]).parameters), parameters)

    def test_methods_of_a_book_are_defined_in_its_class(self):
        self.assertLessEqual({"__init__", "__eq__", "__len__"}, set(vars(Book)))

    def test_arguments_by_name(self):
        book = Book(text=TEXT)
        parts = {"window": 4, "margin": 0, "late": 1, "goal": "home", "stations": book.stations, "links": book.links}
        self.same([book_text(**parts), book], [TEXT, Book(TEXT)])
        self.same([station_number(book=book, name="b"), link_number(book=book, one="b", other="a")], [1, 2])
        self.same([is_lot(book=book, value=("a",)), links_out(book=book, names=("a",))], [True, (0,)])
        self.same([links_in(book=book, names=("a",)), rooms_of(book=book, names=("a",))], [(2,), 4])
        self.same([puts_of(book=book, names=("a",)), is_tick(book=book, value=TICKS[0])], [3, True])
        self.same([first_bad(book=book, value=TICKS), windows_in(book=book, ticks=TICKS)], [None, (0, 2)])
        self.same([may_come(book=book, ticks=TICKS), finished(book=book, ticks=TICKS)[:2]], [((2, 0), ()), TICKS])
        self.same([calm(book=book), rough(book=book)], [calm(book), rough(book)])
        self.same(windows_many(book=book), windows_many(book))

    def test_arguments_by_name_of_runs(self):
        book = Book(TEXT)
        run, other = Run(book=book), run_from(book=book, heaps=(3, 1))
        self.same([run.go_on(tick=TICKS[0]), other.go_on(tick=TICKS[1])], [(1, 0, 0), (0, 1, 0)])
        self.same(run.copy().heaps, run.heaps)
        self.same([played(book=book, ticks=TICKS), heaps_of(book=book, ticks=TICKS)],
                  [((0, 0), 1), ((0, 0), (0, 1), (0, 0))])
        self.same(passes_of(book=book, ticks=TICKS), ((1, 0, 0), (0, 1, 0)))
        self.same(most_in(book=book, ticks=TICKS, names=("b",)), 1)

    def test_arguments_by_name_of_flows(self):
        book, lot = Book(TEXT), ("a", "b")
        self.same([excess(book=book, names=lot), is_flow(book=book, value=(3, 3, 0))], [0, True])
        self.same([is_cut(book=book, value=lot), judged(book=book)], [False, ("flow", (3, 3, 0))])
        self.same([shows_judged(book=book, value=("flow", (3, 3, 0))), has_flow(book=book)], [True, True])
        self.same([worst_excess(book=book), least_worst(book=book), greatest_worst(book=book)], [0, lot, lot])
        self.same([spare(book=book, name="a"), spare_of(book=book, names=lot)], [0, 0])
        self.same([shares(book=book, names=lot), shows_shares(book=book, names=lot, value=(0, 0))], [(0, 0), True])

    def test_arguments_by_name_of_bounds_and_of_what_is_worst(self):
        book = Book(SHORT)
        self.same([lot_bound(book=book, many=1), heap_bound(book=book)], [8, 8])
        self.same([standings_many(book=book, most=9), worst_lot(book=book, names=("a",), most=9)], [9, 2])
        ticks = worst_weather(book=book, names=("a",), most=9)
        self.same(shows_worst_weather(book=book, names=("a",), most=9, value=ticks), True)


class Equal(Case):

    def calls(self, book):
        names = [("a",), ("a", "b"), ()]
        told = [calm(book), rough(book), windows_many(book), may_come(book, TICKS), finished(book, TICKS)]
        for lot in names:
            told += [links_out(book, lot), links_in(book, lot), rooms_of(book, lot), puts_of(book, lot)]
        told += [played(book, TICKS), heaps_of(book, TICKS), passes_of(book, TICKS), most_in(book, TICKS, ("b",))]
        told += [judged(book), has_flow(book), worst_excess(book), least_worst(book), greatest_worst(book)]
        for lot in names[:2]:
            told += [excess(book, lot), is_cut(book, lot), spare(book, "a"), spare_of(book, lot), shares(book, lot)]
        return [*told, lot_bound(book, 2), heap_bound(book)]

    def calls_of_worst(self, book):
        names = ("a",)
        return [standings_many(book, 99), worst_lot(book, names, 99), worst_weather(book, names, 99)]

    def test_equal_calls_return_equal_results(self):
        book = Book(TEXT)
        first = self.calls(book)
        self.same(self.calls(book), first)
        self.same(self.calls(Book(TEXT)), first)
        book = Book(SHORT)
        first = self.calls_of_worst(book)
        self.same(self.calls_of_worst(book), first)
        self.same(self.calls_of_worst(Book(SHORT)), first)

    def test_equal_calls_with_cuts(self):
        book = Book(TEXT.replace("station a 2 3", "station a 2 9"))
        values = []
        for one in (book, book, Book(book.text)):
            with self.assertRaises(NoFlow) as caught:
                shares(one, ("a",))
            values.append((judged(one), caught.exception.value))
        self.same(values, [values[0]] * 3)

    def test_a_book_stays_as_it_is(self):
        book = Book(TEXT)
        ahead = dict(vars(book))
        self.calls(book)
        for call in (links_out, station_number, first_bad, finished):
            with self.assertRaises((BadLot, NoStation, BadTicks)):
                call(book, ["x"])
        for call in (run_from, played, excess, spare, shares, lot_bound, standings_many):
            with self.assertRaises(ValueError):
                call(book, ["x"])
        run = Run(book)
        run.go_on(TICKS[0])
        self.calls_of_worst(Book(SHORT))
        self.same(vars(book), ahead)

    def test_arguments_are_not_changed(self):
        book = Book(TEXT)
        for value in ([["a", 2, 3]], ({"a": [1]},), ([1], [2], [3]), (([0], [1], [2]),), nested(60)):
            ahead = copy.deepcopy(value)
            for call in (
                station_number, is_lot, links_out, is_tick, first_bad, may_come, finished, run_from, Run(book).go_on,
                played, heaps_of, passes_of, excess, is_flow, is_cut, shows_judged, spare, spare_of, shares, lot_bound,
                standings_many,
            ):
                try:
                    call(book, value) if call.__name__ != "go_on" else call(value)
                except ValueError:
                    pass
            self.same([shows_shares(book, ("a",), value), shows_worst_weather(Book(SHORT), ("a",), 9, value)],
                      [False, False])
            for place in range(6):
                parts = [4, 0, 1, "home", book.stations, book.links]
                parts[place] = value
                self.assertRaises(ValueError, book_text, *parts)
            self.same(value, ahead)


class Kept(Case):

    def test_the_very_value_that_was_passed(self):
        book = Book(TEXT)
        value = [nested(59)]
        for error, call in ((NoStation, station_number), (BadLot, links_out), (BadLot, links_in), (BadLot, rooms_of)):
            with self.assertRaises(error) as caught:
                call(book, value)
            self.assertIs(caught.exception.value, value)
        with self.assertRaises(BadStations) as caught:
            book_text(1, 0, 0, "g", value, value)
        self.assertIs(caught.exception.value, value)
        with self.assertRaises(NoLink) as caught:
            link_number(book, value, book)
        self.assertIs(caught.exception.value[0], value)
        self.assertIs(caught.exception.value[1], book)

    def test_errors_with_numbers_of_their_own(self):
        for value in any_values():
            if not isinstance(value, str):
                self.refused(BadBook, 0, Book, value)
            if not isinstance(value, tuple):
                self.refused(BadTicks, None, may_come, Book(TEXT), value)


class Values(Case):

    def test_integers(self):
        for value in (0, 1, -1, 10 ** 39):
            self.assertIs(is_integer(value), True)
        for value in (True, False, None, "1", (1,), [1], {}, Book(TEXT)):
            self.assertIs(is_integer(value), False)

    def test_integers_between(self):
        told = [is_between(value, 1, 3) for value in (0, 1, 3, 4, True, "2")]
        self.same(told, [False, True, True, False, False, False])

    def test_names(self):
        for value in ("a", "z", "abcdefgh", "zzzzzzzz"):
            self.assertIs(is_name(value), True)
        for value in ("", "abcdefghi", "A", "a1", "a b", "a\n", "\ta", "-", *any_values()):
            self.assertIs(is_name(value), False)

    def test_numbers_in_texts(self):
        for number in (0, 1, 9, 10, 100, 123456789, 999999999):
            self.same(number_of(str(number)), number)
        wrong = ["", "00", "01", "-1", "+1", "-0", "1000000000", "0" * 10, "1.", "1_0", "x", " 1", "1\n", "9" * 9999]
        for word in wrong:
            self.assertIsNone(number_of(word))


if __name__ == "__main__":
    unittest.main()
