"""What is told of all functions: names, parameters, equal calls, errors, arguments that are not changed."""

import copy
import importlib
import inspect
import itertools
import random
import unittest

from downhillnet.books import (
    Book, book_text, is_lot, link_number, links_in, links_out, puts_of, rooms_of, station_number,
)
from downhillnet.bounds import heap_bound, lot_bound
from downhillnet.desk import Desk, desk_text, read_desk
from downhillnet.errors import BadBook, BadLot, BadStations, BadTicks, NetError, NoFlow, NoLink, NoStation
from downhillnet.flows import (
    excess, greatest_worst, has_flow, is_cut, is_flow, judged, least_worst, shares, shows_judged, shows_shares, spare,
    spare_of, worst_excess,
)
from downhillnet.runs import Run, heaps_of, most_in, passes_of, played, run_from
from downhillnet.values import is_between, is_integer, is_name, number_of
from downhillnet.weather import calm, finished, first_bad, is_tick, may_come, rough, windows_in, windows_many
from downhillnet.wires import Wire, played_wire
from downhillnet.worst import shows_worst_weather, standings_many, worst_lot, worst_weather
from tests.tools import TEXT, Case, any_values, nested

PARAMETERS = {
    "books": {
        "Book": ["text"],
        "book_text": ["window", "margin", "late", "goal", "stations", "links"],
        "station_number": ["book", "name"],
        "link_number": ["book", "one", "other"],
        "is_lot": ["book", "value"],
        "links_out": ["book", "names"],
        "links_in": ["book", "names"],
        "rooms_of": ["book", "names"],
        "puts_of": ["book", "names"],
    },
    "weather": {
        "is_tick": ["book", "value"],
        "first_bad": ["book", "value"],
        "may_come": ["book", "ticks"],
        "windows_in": ["book", "ticks"],
        "calm": ["book"],
        "rough": ["book"],
        "finished": ["book", "ticks"],
        "windows_many": ["book"],
    },
    "runs": {
        "Run": ["book"],
        "run_from": ["book", "heaps"],
        "played": ["book", "ticks"],
        "heaps_of": ["book", "ticks"],
        "passes_of": ["book", "ticks"],
        "most_in": ["book", "ticks", "names"],
    },
    "flows": {
        "excess": ["book", "names"],
        "is_flow": ["book", "value"],
        "is_cut": ["book", "value"],
        "judged": ["book"],
        "shows_judged": ["book", "value"],
        "has_flow": ["book"],
        "worst_excess": ["book"],
        "least_worst": ["book"],
        "greatest_worst": ["book"],
        "spare": ["book", "name"],
        "spare_of": ["book", "names"],
        "shares": ["book", "names"],
        "shows_shares": ["book", "names", "value"],
    },
    "bounds": {
        "lot_bound": ["book", "many"],
        "heap_bound": ["book"],
    },
    "worst": {
        "standings_many": ["book", "most"],
        "worst_lot": ["book", "names", "most"],
        "worst_weather": ["book", "names", "most"],
        "shows_worst_weather": ["book", "names", "most", "value"],
    },
    "spoil": {
        "is_moves": ["book", "ticks", "value"],
        "moved": ["book", "ticks", "moves"],
        "spoil": ["book", "cut"],
        "shows_spoil": ["book", "cut", "value"],
        "must_lie": ["book", "ticks", "names"],
    },
    "best": {
        "most_home": ["book", "ticks"],
        "shows_most_home": ["book", "ticks", "value"],
        "home_lots": ["book", "ticks"],
        "shows_home_lots": ["book", "ticks", "value"],
    },
    "home": {
        "ways": ["book"],
        "home_levels": ["book"],
        "with_levels": ["book", "levels"],
        "with_margin": ["book", "margin"],
        "home_margin": ["book"],
        "is_homing": ["book"],
        "homing": ["book"],
        "potential": ["book", "heaps"],
        "home_ticks": ["book", "heaps"],
        "home_at": ["book", "ticks"],
        "least_passing": ["book", "heaps"],
    },
    "wires": {
        "Wire": ["packets", "room"],
        "played_wire": ["packets", "room", "events"],
        "events_now": ["wire"],
        "can_be": ["packets", "room", "value"],
        "way_to": ["packets", "room", "standing"],
        "calm_round": ["wire"],
        "end_of": ["wire"],
        "shows_end": ["wire", "value"],
        "least_wrong": ["packets", "room", "who"],
        "shows_least_wrong": ["packets", "room", "who", "value"],
    },
    "needs": {
        "least_open": ["book", "number"],
        "needful": ["book"],
        "scale": ["book"],
        "shows_scale": ["book", "value"],
        "worth": ["book", "number", "name"],
        "least_window": ["book"],
    },
    "nets": {
        "together": ["one", "other"],
        "behind": ["one", "other"],
        "renamed": ["book", "name", "new"],
        "without_link": ["book", "number"],
        "without_station": ["book", "name"],
        "with_link": ["book", "link"],
        "with_station": ["book", "station"],
        "with_put": ["book", "name", "put"],
        "with_open": ["book", "number", "room", "times"],
        "parts_of": ["book"],
        "part": ["book", "names"],
        "rounds": ["book"],
    },
    "lesser": {
        "played_by": ["rule", "book", "ticks"],
        "above_at": ["rule", "book", "ticks"],
        "bad_case": ["rule"],
        "is_case": ["rule", "value"],
    },
    "desk": {
        "Desk": [],
        "desk_text": ["desk"],
        "read_desk": ["text"],
    },
}
METHODS = {
    "runs": {"Run": {"go_on": ["self", "tick"], "copy": ["self"]}},
    "wires": {"Wire": {"go_on": ["self", "event"], "copy": ["self"]}},
    "desk": {
        "Desk": {
            "lead": ["self", "deed"], "run_of": ["self", "name"], "book_of": ["self", "name"], "lies": ["self", "name"],
            "all_in": ["self", "name"], "undo": ["self"], "redo": ["self"], "note": ["self", "word"], "notes": ["self"],
            "back": ["self", "word"], "all_deeds": ["self"],
        },
    },
}
# The attributes that each object has from when on it is made.
PROPERTIES = {
    "books": {"Book": "text window margin late goal stations links"},
    "runs": {"Run": "book tick window heaps home weather passed"},
    "wires": {"Wire": "packets room known got bits letters answers standing"},
    "desk": {"Desk": "names"},
}
# Of each function and class arguments with which it can be called; what they return is told by other tests.
HOMING = Book("net 2 3 0\ngoal z\nstation a 8 1\nstation b 4 0\nlink a b 2 1\nlink b z 1 1")
CUT = Book("net 1 0 0\ngoal home\nstation c 0 2\nlink c home 1 1")
SMALL = Book("net 2 0 0\ngoal g\nstation a 0 1\nlink a g 1 1")
FITTING = Book("net 4 0 1\ngoal home\nstation c 0 2\nlink c home 1 1")
ROW = (((1, 0), (0, 1), (0, 1, 0)), ((0, 0), (1,), (0, 0, 0)))
CASE = ("net 1 0 0\ngoal g\nstation a 0 1\nlink a g 1 1", (((1,), (0,), (0,)),) * 7)


def calls():
    """For each function and class of the interface calls of it: pairs of its name and its arguments."""
    book, lot = Book(TEXT), ("a", "b")
    wire = played_wire((7, 8), 2, (("say",), ("hear",), ("say",)))
    desk = read_desk("stand 1\nnote w 1\nnet n 4\n" + SMALL.text + "\ntick n 1 - 0")
    flow, moves, one = judged(book)[1], ((1, 0, 0), (0, 1, 0)), (((0,), (0,), (0,)),)
    return {
        "books": [
            ("Book", TEXT), ("book_text", 4, 0, 1, "home", book.stations, book.links), ("station_number", book, "b"),
            ("link_number", book, "b", "a"), ("is_lot", book, lot), ("links_out", book, lot), ("links_in", book, ("a",)),
            ("rooms_of", book, lot), ("puts_of", book, lot),
        ],
        "weather": [
            ("is_tick", book, ROW[0]), ("first_bad", book, ROW), ("may_come", book, ROW), ("windows_in", book, ROW),
            ("calm", book), ("rough", book), ("finished", book, ROW), ("windows_many", SMALL),
        ],
        "runs": [
            ("Run", book), ("run_from", book, (3, 1)), ("played", book, ROW), ("heaps_of", book, ROW),
            ("passes_of", book, ROW), ("most_in", book, ROW, lot),
        ],
        "flows": [
            ("excess", book, lot), ("is_flow", book, flow), ("is_cut", book, lot), ("judged", book),
            ("shows_judged", book, ("flow", flow)), ("has_flow", book), ("worst_excess", book), ("least_worst", book),
            ("greatest_worst", book), ("spare", book, "a"), ("spare_of", book, lot), ("shares", book, lot),
            ("shows_shares", book, lot, (0, 0)),
        ],
        "bounds": [("lot_bound", book, 1), ("heap_bound", book)],
        "worst": [
            ("standings_many", SMALL, 99), ("worst_lot", SMALL, ("a",), 99), ("worst_weather", SMALL, ("a",), 99),
            ("shows_worst_weather", SMALL, ("a",), 99, ()),
        ],
        "spoil": [
            ("is_moves", book, ROW, moves), ("moved", book, ROW, moves), ("spoil", CUT, ("c",)),
            ("shows_spoil", CUT, ("c",), (((2,), (0,), (0,)),)), ("must_lie", book, ROW, lot),
        ],
        "best": [
            ("most_home", book, ROW), ("shows_most_home", book, ROW, (1, moves)), ("home_lots", book, ROW),
            ("shows_home_lots", book, ROW, (lot, lot, lot)),
        ],
        "home": [
            ("ways", book), ("home_levels", book), ("with_levels", book, (5, 6)), ("with_margin", book, 7),
            ("home_margin", book), ("is_homing", HOMING), ("homing", book), ("potential", book, (3, 1)),
            ("home_ticks", HOMING, (3, 1)), ("home_at", book, ROW), ("least_passing", book, (3, 1)),
        ],
        "wires": [
            ("Wire", (7, 8), 2), ("played_wire", (7, 8), 2, (("say",),)), ("events_now", wire),
            ("can_be", (7, 8), 2, wire.standing), ("way_to", (7, 8), 2, wire.standing), ("calm_round", wire),
            ("end_of", wire), ("shows_end", wire, ()), ("least_wrong", (7, 8), 2, "receiver"),
            ("shows_least_wrong", (7, 8), 2, "sender", None),
        ],
        "needs": [
            ("least_open", book, 1), ("needful", book), ("scale", book), ("shows_scale", book, None),
            ("worth", book, 1, "a"), ("least_window", book),
        ],
        "nets": [
            ("together", book, FITTING), ("behind", FITTING, book), ("renamed", book, "a", "z"), ("without_link", book, 1),
            ("without_station", book, "a"), ("with_link", book, ("a", "home", 1, 1)), ("with_station", book, ("z", 1, 1)),
            ("with_put", book, "a", 4), ("with_open", book, 1, 3, 2), ("parts_of", book), ("part", book, lot),
            ("rounds", book),
        ],
        "lesser": [
            ("played_by", "half", SMALL, one), ("above_at", "half", SMALL, one), ("bad_case", "half"),
            ("is_case", "half", CASE),
        ],
        "desk": [("Desk",), ("desk_text", desk), ("read_desk", desk_text(desk))],
    }


def methods():
    """For each class with methods objects, and calls of all methods of theirs, one after the other."""
    desk = read_desk("stand 0")
    return [
        (Run(Book(TEXT)), [("go_on", ROW[0]), ("copy",)]),
        (played_wire((7, 8), 2, ()), [("go_on", ("say",)), ("copy",)]),
        (desk, [
            ("lead", ("net", "n", TEXT)), ("run_of", "n"), ("book_of", "n"), ("lies", "n"), ("all_in", "n"),
            ("note", "w"), ("notes",), ("undo",), ("redo",), ("undo",), ("back", "w"), ("all_deeds",),
        ]),
    ]


def told(value):
    """A value, or, if it is an object of a class of the package, all that it tells; so in its parts."""
    if isinstance(value, tuple):
        return tuple(told(part) for part in value)
    for file, classes in PROPERTIES.items():
        for name, names in classes.items():
            if value.__class__.__name__ == name:
                return (name, [told(getattr(value, part)) for part in names.split()], len(value) if name == "Desk" else 0)
    return value


SHORT = "net 2 0 0\ngoal g\nstation a 0 1\nlink a g 1 1"
TICKS = (((1, 0), (0, 1), (0, 1, 0)), ((0, 0), (1,), (0, 0, 0)))


class Interface(Case):

    def test_parameters_have_the_names_of_the_document(self):
        for file, told in PARAMETERS.items():
            for name, parameters in told.items():
                with self.subTest(file=file, name=name):
                    made = getattr(importlib.import_module("downhillnet." + file), name)
                    self.assertEqual(list(inspect.signature(made).parameters), parameters)

    def test_each_is_defined_in_its_file(self):
        for file, told in PARAMETERS.items():
            for name in told:
                with self.subTest(file=file, name=name):
                    made = getattr(importlib.import_module("downhillnet." + file), name)
                    self.assertEqual((made.__module__, made.__name__), ("downhillnet." + file, name))

    def test_methods_are_defined_in_the_class_with_the_parameters_of_the_document(self):
        for file, classes in METHODS.items():
            for name, told in classes.items():
                made = vars(getattr(importlib.import_module("downhillnet." + file), name))
                for method, parameters in told.items():
                    with self.subTest(file=file, name=name, method=method):
                        self.assertEqual(list(inspect.signature(made[method]).parameters), parameters)

    def test_methods_of_a_book_are_defined_in_its_class(self):
        self.assertLessEqual({"__init__", "__eq__", "__len__"}, set(vars(Book)))

    def test_each_of_the_interface_is_called_here(self):
        for file, rows in calls().items():
            self.assertEqual([row[0] for row in rows], list(PARAMETERS[file]))
        self.assertEqual(list(calls()), list(PARAMETERS))

    def test_arguments_by_name_in_any_sequence(self):
        rows, again = calls(), calls()
        for file, told_rows in rows.items():
            for (name, *args), (_, *others) in zip(told_rows, again[file]):
                with self.subTest(file=file, name=name):
                    made = getattr(importlib.import_module("downhillnet." + file), name)
                    result = told(made(*args))
                    named = dict(zip(PARAMETERS[file][name], others, strict=True))
                    for names in itertools.islice(itertools.permutations(named), 24):
                        self.same(told(made(**{name: named[name] for name in names})), result)
                    if args:
                        first, *rest = named
                        self.same(told(made(named[first], **{name: named[name] for name in rest})), result)

    def test_arguments_of_methods_by_name(self):
        for (one, rows), (other, _) in zip(methods(), methods()):
            for name, *args in rows:
                with self.subTest(name=name):
                    parameters = list(inspect.signature(getattr(other, name)).parameters)
                    result = getattr(one, name)(*args)
                    self.same(told(getattr(other, name)(**dict(zip(parameters, args, strict=True)))), told(result))
                    if name in ("lead", "undo", "redo", "note", "back"):
                        self.assertIsNone(result)
            self.same(told(one), told(other))

    def test_attributes_are_set_when_an_object_is_created(self):
        objects = {"Book": Book(TEXT), "Run": Run(Book(TEXT)), "Wire": Wire((1,), 1), "Desk": Desk()}
        for classes in PROPERTIES.values():
            for name, names in classes.items():
                self.assertLessEqual(set(names.split()), set(vars(objects[name])))

    def test_methods_that_are_called_by_signs(self):
        self.assertLessEqual({"__init__", "__len__", "__contains__"}, set(vars(Desk)))

    def test_all_results_are_tuples_where_they_are_sequences(self):
        for file, rows in calls().items():
            for name, *args in rows:
                with self.subTest(file=file, name=name):
                    made = getattr(importlib.import_module("downhillnet." + file), name)
                    self.assertFalse(self.lists_in(told(made(*args)) if made.__name__[0].islower() else None))

    def lists_in(self, value):
        """Whether a list or a dict is a part of what was returned."""
        if isinstance(value, tuple):
            if value and value[0] in ("Book", "Run", "Wire", "Desk"):
                return any(self.lists_in(part) for part in value[1])
            return any(self.lists_in(part) for part in value)
        return isinstance(value, (list, dict, set))


class Equal(Case):

    def calls(self, book):
        names = [("a",), ("a", "b"), ()]
        told = [calm(book), rough(book), windows_many(book), may_come(book, TICKS), finished(book, TICKS)]
        for lot in names:
            told += [links_out(book, lot), links_in(book, lot), rooms_of(book, lot), puts_of(book, lot)]
        told += [played(book, TICKS), heaps_of(book, TICKS), passes_of(book, TICKS), most_in(book, TICKS, ("b",))]
        told += [judged(book), has_flow(book), worst_excess(book), least_worst(book), greatest_worst(book)]
        for lot in names[:2]:
            told += [excess(book, lot), is_cut(book, lot), spare(book, "a"), spare_of(book, lot), shares(book, lot)]
        return [*told, lot_bound(book, 2), heap_bound(book)]

    def calls_of_worst(self, book):
        names = ("a",)
        return [standings_many(book, 99), worst_lot(book, names, 99), worst_weather(book, names, 99)]

    def test_equal_calls_return_equal_results(self):
        book = Book(TEXT)
        first = self.calls(book)
        self.same(self.calls(book), first)
        self.same(self.calls(Book(TEXT)), first)
        book = Book(SHORT)
        first = self.calls_of_worst(book)
        self.same(self.calls_of_worst(book), first)
        self.same(self.calls_of_worst(Book(SHORT)), first)

    def test_equal_calls_of_the_whole_interface(self):
        first = self.results(calls())
        rows = calls()
        self.same(self.results(rows), first)
        # Other calls in between, and the very same objects again.
        self.calls(Book(TEXT.replace("station a 2 3", "station a 2 4").replace("home 1 3", "home 9 4")))
        self.same(self.results(rows), first)
        chance = random.Random(1)
        order = [(file, at) for file in rows for at in range(len(rows[file]))]
        chance.shuffle(order)
        for file, at in order:
            self.same(self.result(file, rows[file][at]), first[file][at])

    def results(self, rows):
        return {file: [self.result(file, row) for row in rows[file]] for file in rows}

    def result(self, file, row):
        return told(getattr(importlib.import_module("downhillnet." + file), row[0])(*row[1:]))

    def test_arguments_stay_as_they_are(self):
        rows = calls()
        ahead = told(tuple(tuple(row) for file in rows for row in rows[file]))
        self.results(rows)
        self.same(told(tuple(tuple(row) for file in rows for row in rows[file])), ahead)

    def test_arguments_that_are_refused_stay_as_they_are(self):
        for value in ([["a", 2, 3]], ({"a": [1]},), ([1], [2], [3]), (([0], [1], [2]),), nested(60), [["say"]], [1, {}]):
            ahead = copy.deepcopy(value)
            for file, rows in calls().items():
                for name, *args in rows:
                    for at in range(len(args)):
                        if not PARAMETERS[file][name][at] in ("book", "one", "other", "wire", "desk"):
                            self.with_value(file, (name, *args[:at], value, *args[at + 1:]))
            for one, rows in methods():
                for name, *args in rows:
                    if args:
                        self.assertRaises(NetError, getattr(one, name), value)
            self.same(value, ahead)

    def with_value(self, file, row):
        """The call raises an error of the package, or tells something; and the objects stay as they were."""
        objects = told(tuple(part for part in row if isinstance(part, (Book, Run, Wire, Desk))))
        try:
            self.result(file, row)
        except NetError:
            pass
        self.same(told(tuple(part for part in row if isinstance(part, (Book, Run, Wire, Desk)))), objects)

    def test_equal_calls_with_cuts(self):
        book = Book(TEXT.replace("station a 2 3", "station a 2 9"))
        values = []
        for one in (book, book, Book(book.text)):
            with self.assertRaises(NoFlow) as caught:
                shares(one, ("a",))
            values.append((judged(one), caught.exception.value))
        self.same(values, [values[0]] * 3)

    def test_a_book_stays_as_it_is(self):
        book = Book(TEXT)
        ahead = dict(vars(book))
        self.calls(book)
        for call in (links_out, station_number, first_bad, finished):
            with self.assertRaises((BadLot, NoStation, BadTicks)):
                call(book, ["x"])
        for call in (run_from, played, excess, spare, shares, lot_bound, standings_many):
            with self.assertRaises(ValueError):
                call(book, ["x"])
        run = Run(book)
        run.go_on(TICKS[0])
        self.calls_of_worst(Book(SHORT))
        self.same(vars(book), ahead)

    def test_arguments_are_not_changed(self):
        book = Book(TEXT)
        for value in ([["a", 2, 3]], ({"a": [1]},), ([1], [2], [3]), (([0], [1], [2]),), nested(60)):
            ahead = copy.deepcopy(value)
            for call in (
                station_number, is_lot, links_out, is_tick, first_bad, may_come, finished, run_from, Run(book).go_on,
                played, heaps_of, passes_of, excess, is_flow, is_cut, shows_judged, spare, spare_of, shares, lot_bound,
                standings_many,
            ):
                try:
                    call(book, value) if call.__name__ != "go_on" else call(value)
                except ValueError:
                    pass
            self.same([shows_shares(book, ("a",), value), shows_worst_weather(Book(SHORT), ("a",), 9, value)],
                      [False, False])
            for place in range(6):
                parts = [4, 0, 1, "home", book.stations, book.links]
                parts[place] = value
                self.assertRaises(ValueError, book_text, *parts)
            self.same(value, ahead)


class Kept(Case):

    def test_the_very_value_that_was_passed(self):
        book = Book(TEXT)
        value = [nested(59)]
        for error, call in ((NoStation, station_number), (BadLot, links_out), (BadLot, links_in), (BadLot, rooms_of)):
            with self.assertRaises(error) as caught:
                call(book, value)
            self.assertIs(caught.exception.value, value)
        with self.assertRaises(BadStations) as caught:
            book_text(1, 0, 0, "g", value, value)
        self.assertIs(caught.exception.value, value)
        with self.assertRaises(NoLink) as caught:
            link_number(book, value, book)
        self.assertIs(caught.exception.value[0], value)
        self.assertIs(caught.exception.value[1], book)

    def test_errors_with_numbers_of_their_own(self):
        for value in any_values():
            if not isinstance(value, str):
                self.refused(BadBook, 0, Book, value)
            if not isinstance(value, tuple):
                self.refused(BadTicks, None, may_come, Book(TEXT), value)


class Values(Case):

    def test_integers(self):
        for value in (0, 1, -1, 10 ** 39):
            self.assertIs(is_integer(value), True)
        for value in (True, False, None, "1", (1,), [1], {}, Book(TEXT)):
            self.assertIs(is_integer(value), False)

    def test_integers_between(self):
        told = [is_between(value, 1, 3) for value in (0, 1, 3, 4, True, "2")]
        self.same(told, [False, True, True, False, False, False])

    def test_names(self):
        for value in ("a", "z", "abcdefgh", "zzzzzzzz"):
            self.assertIs(is_name(value), True)
        for value in ("", "abcdefghi", "A", "a1", "a b", "a\n", "\ta", "-", *any_values()):
            self.assertIs(is_name(value), False)

    def test_numbers_in_texts(self):
        for number in (0, 1, 9, 10, 100, 123456789, 999999999):
            self.same(number_of(str(number)), number)
        wrong = ["", "00", "01", "-1", "+1", "-0", "1000000000", "0" * 10, "1.", "1_0", "x", " 1", "1\n", "9" * 9999]
        for word in wrong:
            self.assertIsNone(number_of(word))


if __name__ == "__main__":
    unittest.main()
