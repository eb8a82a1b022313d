import itertools
import random
import unittest

from downhillnet.books import Book, book_text
from downhillnet.desk import Desk, desk_text, read_desk
from downhillnet.errors import (
    Amid, BadBook, BadDeed, BadDesk, BadLink, BadName, BadNumber, BadStation, BadTick, Held, LastOne, NetError, NoLink,
    NoNet, NoNote, NoStation, NotEmpty, NothingToRedo, NothingToUndo, TooMany,
)
from downhillnet.runs import Run, run_from
from downhillnet.weather import calm, rough
from tests.tools import TEXT, Case, any_values, nested, some_books, some_ticks

SMALL = "net 2 0 0\ngoal home\nstation a 2 3\nlink a home 1 1"
PAIR = "net 2 0 1\ngoal g\nstation b 1 2\nstation a 0 1\nlink b a 2 1\nlink a g 1 2\nlink b g 1 0"
IDLE = ((0, 0), (), (0, 0, 0))
NAMES = "abcdefghijklmnopqrst"


def led(*deeds):
    """A desk at which these deeds stand."""
    desk = Desk()
    for deed in deeds:
        desk.lead(deed)
    return desk


def run_story(run):
    """All that a run tells."""
    return (run.book.text, run.tick, run.window, run.heaps, run.home, run.weather, run.passed)


def desk_story(desk):
    """All that a desk tells."""
    nets = {name: (run_story(desk.run_of(name)), desk.book_of(name).text, desk.lies(name), desk.all_in(name))
            for name in desk.names}
    return (desk.names, len(desk), nets, desk.notes(), desk.all_deeds(), desk_text(desk))


class Model:
    """Nets and what deeds do with them, word by word; for small rooms only."""

    def __init__(self):
        self.nets = {}

    def book(self, book, stations, links):
        return Book(book_text(book.window, book.margin, book.late, book.goal, tuple(stations), tuple(links)))

    def do(self, deed):
        word, name, *parts = deed
        run = self.nets.get(name)
        if word == "net":
            self.nets[name] = Run(Book(parts[0]))
        elif word == "tick":
            run.go_on(parts[0])
        elif word == "calm":
            for _ in range(parts[0]):
                for tick in calm(run.book):
                    run.go_on(tick)
        elif word == "copy":
            self.nets[parts[0]] = run.copy()
        elif word == "drop":
            del self.nets[name]
        else:
            self.change(word, name, run, parts)

    def change(self, word, name, run, parts):
        stations, links = list(run.book.stations), list(run.book.links)
        lies = dict(zip([station[0] for station in stations], run.heaps))
        if word in ("link", "shut"):
            at = next((k for k, link in enumerate(links) if link[:2] == tuple(parts[:2])), None)
            if word == "shut":
                del links[at]
            elif at is None:
                links.append(tuple(parts))
            else:
                links[at] = tuple(parts)
        elif word == "come":
            at = next((k for k, station in enumerate(stations) if station[0] == parts[0]), None)
            if at is None:
                stations.append(tuple(parts))
            else:
                stations[at] = tuple(parts)
        else:
            stations = [station for station in stations if station[0] != parts[0]]
            links = [link for link in links if parts[0] not in link[:2]]
        book = self.book(run.book, stations, links)
        self.nets[name] = run_from(book, tuple(lies.get(station[0], 0) for station in stations))

    def story(self):
        return {name: run_story(self.nets[name]) for name in sorted(self.nets)}


def some_deed(chance, desk):
    """A deed as it comes by chance: often one that is done, now and then one that is refused."""
    name = chance.choice([*desk.names, *desk.names, "n", "m", "no"])
    book = desk.book_of(name) if name in desk else Book(TEXT)
    stations = [*[station[0] for station in book.stations], "e"]
    word = chance.choice(["net", *["tick"] * 3, *["calm"] * 2, *["link"] * 3, *["shut"] * 2, "come", "leave", "copy", "drop"])
    if word == "net":
        return (word, name, some_books(chance, 1)[0].text)
    if word == "tick":
        return (word, name, some_ticks(chance, book, 1)[0])
    if word == "calm":
        return (word, name, chance.choice([1, 1, 2, 20, 0, 21]))
    if word == "link":
        numbers = (chance.randint(0, 3), chance.randint(0, 2))
        return (word, name, chance.choice(stations), chance.choice([*stations, "g"]), *numbers)
    if word == "shut":
        return (word, name, *chance.choice([link[:2] for link in book.links] or [("a", "b")]))
    if word == "come":
        return (word, name, chance.choice([*stations, "d", "g"]), chance.randint(0, 3), chance.randint(0, 3))
    if word == "leave":
        return (word, name, chance.choice(stations))
    return (word, name, chance.choice(["n", "m", "zz"])) if word == "copy" else (word, name)


class Deeds(Case):

    def test_an_empty_desk(self):
        desk = Desk()
        self.same([desk.names, len(desk), desk.notes(), desk.all_deeds(), desk_text(desk)], [(), 0, (), ((), ()), "stand 0"])
        for value in ["n", *any_values()]:
            self.assertIs(value in desk, False)
        self.assertIn("names", vars(desk))

    def test_beside_a_model(self):
        chance = random.Random(1)
        words = {}
        for _ in range(80):
            desk, model = Desk(), Model()
            for _ in range(50):
                deed = some_deed(chance, desk)
                ahead = desk_story(desk)
                try:
                    self.assertIsNone(desk.lead(deed))
                except NetError:
                    self.same(desk_story(desk), ahead)
                    continue
                model.do(deed)
                words[deed[0]] = words.get(deed[0], 0) + 1
                self.same({name: run_story(desk.run_of(name)) for name in desk.names}, model.story())
                self.same(desk.all_deeds()[0][-1], deed)
        self.assertEqual(len(words), 9)
        self.assertGreater(min(words.values()), 15, words)

    def test_names(self):
        desk = led(("net", "m", SMALL), ("net", "b", PAIR), ("copy", "m", "a"))
        self.same([desk.names, len(desk), "m" in desk, "c" in desk, ("m",) in desk, ["m"] in desk],
                  [("a", "b", "m"), 3, True, False, False, False])
        desk.lead(("drop", "b"))
        self.same([desk.names, len(desk), "b" in desk], [("a", "m"), 2, False])
        desk.lead(("net", "b", SMALL))
        self.same(desk.names, ("a", "b", "m"))

    def test_what_lies(self):
        desk = led(("net", "n", PAIR), ("tick", "n", ((2, 1), (), (0, 0, 0))))
        self.same([desk.lies("n"), desk.all_in("n"), desk.book_of("n")], [(("b", 2), ("a", 1)), 3, Book(PAIR)])

    def test_ticks_need_not_keep_the_book(self):
        desk = led(("net", "n", SMALL), *[("tick", "n", ((9,), (), (0,)))] * 5)
        self.same([desk.lies("n"), desk.run_of("n").tick], [(("a", 45),), 5])

    def test_calm(self):
        desk = led(("net", "n", PAIR), ("tick", "n", ((2, 1), (), (0, 0, 0))), ("tick", "n", IDLE), ("calm", "n", 3))
        run = run_from(Book(PAIR), (0, 0))
        for tick in (((2, 1), (), (0, 0, 0)), IDLE, *calm(run.book) * 3):
            run.go_on(tick)
        self.same(run_story(desk.run_of("n")), run_story(run))
        desk.lead(("calm", "n", 20))
        self.same([desk.run_of("n").tick, desk.all_in("n"), desk.run_of("n").home], [48, 0, 3])
        desk.lead(("calm", "n", 1))
        self.same(desk.run_of("n").tick, 50)

    def changed(self, deed):
        """Behind three packets at b, one at a and two windows, what comes of a deed."""
        ticks = [("tick", "n", ((3, 1), (), (0, 0, 0))), ("tick", "n", ((0, 0), (1,), (0, 0, 0))), *[("tick", "n", IDLE)] * 2]
        desk = led(("net", "n", PAIR), *ticks)
        self.same([desk.lies("n"), desk.run_of("n").home, desk.run_of("n").tick], [(("b", 3), ("a", 0)), 1, 4])
        desk.lead(deed)
        run = desk.run_of("n")
        self.same([run.tick, run.window, run.home, run.weather, run.passed],
                  [0, 0, 0, (), (0,) * len(run.book.links)])
        return run

    def test_books_changed_while_packets_lie_there(self):
        for deed, text, heaps in (
            (("link", "n", "a", "b", 3, 2), PAIR + "\nlink a b 3 2", (3, 0)),
            (("link", "n", "a", "g", 5, 0), PAIR.replace("a g 1 2", "a g 5 0"), (3, 0)),
            (("link", "n", "b", "a", 2, 1), PAIR, (3, 0)),
            (("shut", "n", "a", "g"), PAIR.replace("\nlink a g 1 2", ""), (3, 0)),
            (("come", "n", "c", 7, 8), PAIR.replace("\nlink b a", "\nstation c 7 8\nlink b a"), (3, 0, 0)),
            (("come", "n", "b", 7, 8), PAIR.replace("station b 1 2", "station b 7 8"), (3, 0)),
            (("come", "n", "b", 1, 2), PAIR, (3, 0)),
            (("leave", "n", "a"), "net 2 0 1\ngoal g\nstation b 1 2\nlink b g 1 0", (3,)),
        ):
            run = self.changed(deed)
            self.same([run.book.text, run.heaps], [text, heaps])

    def test_heaps_have_lain_for_long(self):
        # What is heard late of the heaps is what lies there since the change.
        run = self.changed(("come", "n", "c", 0, 0))
        other = run_from(run.book, (3, 0, 0))
        for tick in (((0, 0, 0), (0,), (1, 1, 1)), ((0, 0, 0), (0, 1, 2), (1, 1, 1))):
            self.same(run.go_on(tick), other.go_on(tick))

    def test_a_copy_goes_on_by_itself(self):
        desk = led(("net", "n", PAIR), ("tick", "n", ((2, 1), (), (0, 0, 0))), ("copy", "n", "m"))
        self.same(run_story(desk.run_of("m")), run_story(desk.run_of("n")))
        desk.lead(("tick", "n", ((5, 5), (), (0, 0, 0))))
        self.same([desk.all_in("n"), desk.all_in("m"), desk.run_of("m").tick], [13, 3, 1])
        desk.lead(("tick", "m", ((1, 0), (), (0, 0, 0))))
        self.same([desk.all_in("n"), desk.all_in("m")], [13, 4])
        desk.lead(("drop", "n"))
        self.same(desk.lies("m"), (("b", 3), ("a", 1)))

    def test_runs_that_were_taken_go_on_by_themselves(self):
        desk = led(("net", "n", PAIR), ("tick", "n", ((2, 1), (), (0, 0, 0))))
        run, told = desk.run_of("n"), desk_story(desk)
        run.go_on(((9, 9), (), (0, 0, 0)))
        self.same(desk_story(desk), told)
        desk.lead(("tick", "n", IDLE))
        self.same([run.heaps, desk.run_of("n").heaps], [(11, 10), (2, 1)])
        desk.undo()
        self.same([run.tick, run.heaps, desk.run_of("n").tick], [2, (11, 10), 1])


class Refused(Case):

    def setUp(self):
        tick = ("tick", "amid", ((2, 1), (), (0, 0, 0)))
        self.desk = led(("net", "n", PAIR), ("net", "amid", PAIR), tick, ("net", "m", SMALL))
        self.desk.note("w")
        self.desk.lead(("drop", "m"))
        self.desk.undo()

    def wrong(self, error, value, deed):
        """The deed is refused with just this error, and changes nothing: neither undone deeds nor notes."""
        told = desk_story(self.desk)
        self.refused(error, value, self.desk.lead, deed)
        self.same(desk_story(self.desk), told)

    def test_no_deeds(self):
        for deed in [
            (), "net", ["drop", "n"], ("drop",), ("drop", "n", "n"), ("Drop", "n"), ("net", "x"), ("net", "x", SMALL, 1),
            ("tick", "n"), ("tick", "n", (0, 0), (), (0,)), ("calm", "n"), ("calm", "n", 1, 1), ("link", "n", "a", "b", 1),
            ("link", "n", "a", "b", 1, 1, 1), ("shut", "n", "a"), ("shut", "n", "a", "b", 1), ("come", "n", "a", 1),
            ("come", "n", "a", 1, 1, 1), ("leave", "n"), ("leave", "n", "a", "a"), ("copy", "n"), ("copy", "n", "x", "y"),
            (["drop"], "n"), (("drop", "n"),), (True, "n"), (None, "n", "x"), ("note", "x"), ("undo",), ("stand", 1),
            ({"drop": 1}, "n"), *any_values(), nested(60),
        ]:
            self.wrong(BadDeed, deed, deed)

    def test_the_very_deed(self):
        deed = (["drop"], "n")
        with self.assertRaises(BadDeed) as caught:
            self.desk.lead(deed)
        self.assertIs(caught.exception.value, deed)

    def test_no_nets(self):
        parts = {"tick": 1, "calm": 1, "link": 4, "shut": 2, "come": 3, "leave": 1, "copy": 1, "drop": 0}
        for value in ["x", "nn", "", ("n",), ["n"], *any_values()]:
            for word, many in parts.items():
                self.wrong(NoNet, value, (word, value, *[None] * many))
            for call in (self.desk.run_of, self.desk.book_of, self.desk.lies, self.desk.all_in):
                with self.assertRaises(NoNet) as caught:
                    call(value)
                self.assertIs(caught.exception.value, value)

    def test_net_and_copy(self):
        for value in ["", "A", "ninechars", "n1", 1, ("x",), ["x"], *any_values()]:
            self.wrong(BadName, value, ("net", value, None))
            self.wrong(BadName, value, ("copy", "n", value))
        for name in ("n", "m", "amid"):
            self.wrong(Held, name, ("net", name, None))
            self.wrong(Held, name, ("copy", "n", name))
            self.wrong(Held, name, ("copy", "amid", name))
        self.wrong(NoNet, "x", ("copy", "x", ""))
        for text, number in ((None, 0), (1, 0), ([SMALL], 0), ("", 1), (SMALL + "\n", 5), ("net 2 0 0\ngoal a", 3)):
            self.wrong(BadBook, number, ("net", "x", text))

    def test_tick(self):
        for tick in [None, ((0, 0), ()), ((0,), (), (0, 0, 0)), ((0, 0), (3,), (0, 0, 0)), ((0, 0), (), (2, 0, 0)),
                     ((True, 0), (), (0, 0, 0)), [(0, 0), (), (0, 0, 0)], *any_values()]:
            for name in ("n", "amid"):
                self.wrong(BadTick, tick, ("tick", name, tick))

    def test_amid_a_window(self):
        for deed in (("calm", "amid", 0), ("link", "amid", "x", "x", 0, 9), ("shut", "amid", "x", "y"),
                     ("come", "amid", "g", 0, 0), ("leave", "amid", "x"), ("calm", "amid", 1), ("leave", "amid", "b")):
            self.wrong(Amid, 1, deed)
        self.desk.lead(("tick", "amid", IDLE))
        self.desk.lead(("tick", "amid", IDLE))
        self.wrong(Amid, 3, ("calm", "amid", 1))

    def test_calm(self):
        for value in [0, 21, -1, True, "1", None, (1,), *any_values()]:
            self.wrong(BadNumber, value, ("calm", "n", value))

    def test_link(self):
        for parts in [
            ("a", "a", 1, 1), ("g", "a", 1, 1), ("x", "a", 1, 1), ("a", "x", 1, 1), ("a", "g", 0, 1), ("a", "g", 1001, 1),
            ("a", "g", 1, 3), ("a", "g", 1, -1), ("a", "g", True, 1), ("a", "g", 1, True), ("a", "g", "1", 1), (None,) * 4,
            (["a"], "g", 1, 1), ("a", ("g",), 1, 1), ("a", "b", 0, 1), ("b", "a", 2, 3), (nested(50), {}, [], ()),
        ]:
            self.wrong(BadLink, parts, ("link", "n", *parts))

    def test_shut(self):
        for pair in [("a", "b"), ("g", "a"), ("a", "a"), ("x", "y"), (None, None), (["b"], "a"), ("b", ("a",)), (1, True)]:
            self.wrong(NoLink, pair, ("shut", "n", *pair))

    def test_come(self):
        for parts in [
            ("g", 0, 0), ("", 0, 0), ("C", 0, 0), (1, 0, 0), ("c", -1, 0), ("c", 300000001, 0), ("c", 0, 1000001),
            ("c", True, 0), ("c", 0, False), ("c", "0", 0), ("b", -1, 0), ("b", 0, None), (["b"], 0, 0), (None,) * 3,
        ]:
            self.wrong(BadStation, parts, ("come", "n", *parts))

    def test_leave(self):
        for value in ["g", "x", "", ("b",), ["b"], *any_values()]:
            self.wrong(NoStation, value, ("leave", "n", value))
        self.wrong(LastOne, "a", ("leave", "m", "a"))
        self.desk.lead(("tick", "amid", IDLE))
        self.wrong(NotEmpty, 2, ("leave", "amid", "b"))
        self.wrong(NotEmpty, 1, ("leave", "amid", "a"))
        for tick in (((5,), (), (0,)), ((0,), (), (0,))):
            self.desk.lead(("tick", "m", tick))
        # What lies there is told ahead of there being no other station.
        self.wrong(NotEmpty, 5, ("leave", "m", "a"))
        self.wrong(NoStation, "b", ("leave", "m", "b"))

    def test_too_many(self):
        pairs = list(itertools.permutations(NAMES[:9], 2))[:60]
        lines = ["net 1 0 0", "goal z", *[f"station {name} 0 0" for name in NAMES], *[f"link {a} {b} 1 1" for a, b in pairs]]
        self.desk.lead(("net", "full", "\n".join(lines)))
        self.wrong(TooMany, 60, ("link", "full", "a", "z", 1, 1))
        self.wrong(BadLink, ("a", "z", 0, 1), ("link", "full", "a", "z", 0, 1))
        self.wrong(TooMany, 20, ("come", "full", "u", 0, 0))
        self.wrong(BadStation, ("u", 0, -1), ("come", "full", "u", 0, -1))
        self.desk.lead(("link", "full", "a", "b", 7, 0))
        self.desk.lead(("come", "full", "a", 7, 8))
        self.same([len(self.desk.book_of("full").links), self.desk.book_of("full").links[0]], [60, ("a", "b", 7, 0)])
        self.desk.lead(("shut", "full", "a", "b"))
        self.desk.lead(("link", "full", "a", "z", 1, 1))
        self.desk.lead(("leave", "full", "t"))
        self.desk.lead(("come", "full", "u", 0, 0))
        self.same([self.desk.book_of("full").links[-1], self.desk.book_of("full").stations[-1]], [("a", "z", 1, 1), ("u", 0, 0)])

    def test_the_very_values(self):
        value = nested(50)
        for error, deed in ((NoNet, ("drop", value)), (BadName, ("net", value, value)), (BadName, ("copy", "n", value)),
                            (BadTick, ("tick", "n", value)), (BadNumber, ("calm", "n", value)),
                            (NoStation, ("leave", "n", value))):
            with self.assertRaises(error) as caught:
                self.desk.lead(deed)
            self.assertIs(caught.exception.value, value)
        for error, word, rest in ((BadLink, "link", (value, 1, None)), (NoLink, "shut", (value,)), (BadStation, "come", (1, value))):
            with self.assertRaises(error) as caught:
                self.desk.lead((word, "n", value, *rest))
            for part, told in zip((value, *rest), caught.exception.value):
                self.assertIs(part, told)


class Journal(Case):

    def test_undo_and_redo_over_many_deeds(self):
        chance = random.Random(2)
        for _ in range(25):
            desk = Desk()
            stories = [desk_story(desk)]
            while len(stories) < 30:
                try:
                    desk.lead(some_deed(chance, desk))
                except NetError:
                    continue
                stories.append(desk_story(desk))
            self.there_and_back(chance, desk, stories)

    def there_and_back(self, chance, desk, stories):
        """Undone and done again, it stands as it stood; what was undone is told."""
        deeds, at = desk.all_deeds()[0], len(stories) - 1
        for _ in range(60):
            if chance.random() < 0.5 and at > 0:
                self.assertIsNone(desk.undo())
                at -= 1
            elif at < len(stories) - 1:
                self.assertIsNone(desk.redo())
                at += 1
            self.same(desk_story(desk)[:3], stories[at][:3])
            self.same(desk.all_deeds(), (deeds[:at], deeds[at:]))
            self.same(read_story(desk_text(desk)), desk_story(desk))

    def test_nothing_to_undo_or_redo(self):
        desk = Desk()
        self.refused(NothingToUndo, 0, desk.undo)
        self.refused(NothingToRedo, 0, desk.redo)
        desk.lead(("net", "n", SMALL))
        desk.lead(("drop", "n"))
        self.refused(NothingToRedo, 2, desk.redo)
        desk.undo()
        desk.undo()
        self.refused(NothingToUndo, 0, desk.undo)
        self.same(desk.all_deeds(), ((), (("net", "n", SMALL), ("drop", "n"))))
        desk.redo()
        desk.redo()
        self.refused(NothingToRedo, 2, desk.redo)

    def test_a_new_deed_forgets_the_undone_ones(self):
        desk = led(*[("net", name, SMALL) for name in "abcd"])
        desk.undo()
        desk.undo()
        self.refused(NoNet, "c", desk.lead, ("drop", "c"))
        self.same(len(desk.all_deeds()[1]), 2)
        desk.lead(("net", "x", SMALL))
        self.same([desk.names, desk.all_deeds()[1]], [("a", "b", "x"), ()])
        self.refused(NothingToRedo, 3, desk.redo)

    def test_a_new_deed_forgets_notes_for_more_deeds_than_stood(self):
        desk = Desk()
        for name in "abcd":
            desk.note(name * 2)
            desk.lead(("net", name, SMALL))
        desk.note("end")
        self.same(desk.notes(), (("aa", 0), ("bb", 1), ("cc", 2), ("dd", 3), ("end", 4)))
        desk.undo()
        desk.undo()
        self.same(len(desk.notes()), 5)
        desk.lead(("drop", "a"))
        self.same(desk.notes(), (("aa", 0), ("bb", 1), ("cc", 2)))
        self.refused(NoNote, "dd", desk.back, "dd")
        self.assertIsNone(desk.back("cc"))
        self.same([desk.names, len(desk.all_deeds()[1])], [("a", "b"), 1])

    def test_notes_and_back(self):
        desk = Desk()
        self.assertIsNone(desk.note("none"))
        for number in range(6):
            desk.lead(("net", "n" * (number + 1), SMALL))
            if number % 2:
                desk.note("w" * number)
        self.same(desk.notes(), (("none", 0), ("w", 2), ("www", 4), ("wwwww", 6)))
        for word, many in (("w", 2), ("wwwww", 6), ("none", 0), ("www", 4), ("www", 4)):
            self.assertIsNone(desk.back(word))
            self.same([len(desk), [len(part) for part in desk.all_deeds()]], [many, [many, 6 - many]])
        desk.note("w")
        self.same(desk.notes(), (("none", 0), ("w", 4), ("www", 4), ("wwwww", 6)))
        desk.back("wwwww")
        self.same(len(desk), 6)

    def test_bad_words(self):
        desk = led(("net", "n", SMALL))
        desk.note("w")
        told = desk_story(desk)
        for value in ["", "W", "ninechars", "a b", 1, ("w",), ["w"], *any_values()]:
            with self.assertRaises(BadName) as caught:
                desk.note(value)
            self.assertIs(caught.exception.value, value)
        for value in ["", "ww", "n", 1, ("w",), ["w"], {"w": 1}, *any_values()]:
            with self.assertRaises(NoNote) as caught:
                desk.back(value)
            self.assertIs(caught.exception.value, value)
        self.same(desk_story(desk), told)

    def test_a_net_that_was_dropped_comes_back_as_it_stood(self):
        desk = led(("net", "n", PAIR), ("tick", "n", ((2, 1), (), (0, 0, 0))))
        told = run_story(desk.run_of("n"))
        desk.lead(("drop", "n"))
        desk.lead(("net", "n", SMALL))
        desk.lead(("tick", "n", ((1,), (), (0,))))
        for _ in range(3):
            desk.undo()
        self.same(run_story(desk.run_of("n")), told)

    def test_many_deeds(self):
        desk = led(("net", "n", SMALL))
        for _ in range(500):
            desk.lead(("tick", "n", ((1,), (0,), (0,))))
        desk.note("far")
        for _ in range(501):
            desk.undo()
        desk.back("far")
        self.same([desk.run_of("n").tick, desk.run_of("n").home + desk.all_in("n")], [500, 500])


def read_story(text):
    """The story of the desk that is read from a text."""
    return desk_story(read_desk(text))


class Text(Case):
    DEEDS = (
        ("net", "n", PAIR), ("tick", "n", ((2, 1), (), (0, 1, 0))), ("tick", "n", ((0, 0), (0, 2), (1, 1, 1))),
        ("calm", "n", 2), ("link", "n", "a", "b", 3, 2), ("shut", "n", "b", "g"), ("come", "n", "c", 7, 8),
        ("copy", "n", "m"), ("leave", "n", "c"), ("net", "bare", "net 1 0 0\ngoal g\nstation a 0 0"),
        ("tick", "bare", ((5,), (), ())), ("drop", "bare"),
    )
    LINES = [
        "net n 7", *PAIR.split("\n"), "tick n 2,1 - 0,1,0", "tick n 0,0 0,2 1,1,1", "calm n 2", "link n a b 3 2",
        "shut n b g", "come n c 7 8", "copy n m", "leave n c", "net bare 3", "net 1 0 0", "goal g", "station a 0 0",
        "tick bare 5 - -", "drop bare",
    ]

    def text(self, lines=None, stand=12, notes=()):
        """A text with these lines."""
        return "\n".join([f"stand {stand}", *notes, *(self.LINES if lines is None else lines)])

    def test_to_the_letter(self):
        desk = led(*self.DEEDS)
        self.same(desk_text(desk), self.text())
        desk.note("z")
        for _ in range(3):
            desk.undo()
        desk.note("aa")
        desk.note("b")
        self.same(desk_text(desk), self.text(None, 9, ["note aa 9", "note b 9", "note z 12"]))

    def test_there_and_back(self):
        for stand in range(13):
            for notes in ([], ["note a 0"], ["note a 12", "note b 0", "note zz 5"]):
                text = self.text(None, stand, notes)
                desk = read_desk(text)
                self.same([desk_text(desk), desk.all_deeds()], [text, (self.DEEDS[:stand], self.DEEDS[stand:])])
                self.same(desk.notes(), tuple((row.split()[1], int(row.split()[2])) for row in notes))
                other = led(*self.DEEDS)
                for _ in range(12 - stand):
                    other.undo()
                self.same(desk_story(desk)[:3], desk_story(other)[:3])

    def test_it_goes_on_alike(self):
        desk = led(*self.DEEDS)
        desk.note("w")
        for _ in range(4):
            desk.undo()
        other = read_desk(desk_text(desk))
        for deed in (("tick", "m", ((1, 1, 1), (0, 1, 2), (1, 1, 1))), ("tick", "m", ((1, 0, 0), (), (0, 0, 0)))):
            desk.redo(), other.redo()
            self.same(desk_story(other), desk_story(desk))
            desk.lead(deed), other.lead(deed)
            self.same(desk_story(other), desk_story(desk))
            desk.undo(), other.undo()
            self.same(desk_story(other), desk_story(desk))

    def test_no_texts(self):
        for value in any_values():
            if not isinstance(value, str):
                self.refused(BadDesk, 0, read_desk, value)
        self.same([read_desk("stand 0").names, desk_text(read_desk("stand 0"))], [(), "stand 0"])

    def test_the_first_line(self):
        for line in ("", "stand", "stand ", "stand 00", "stand -1", "stand 1 1", " stand 1", "stand  1", "Stand 1", "stand x",
                     "stand 1000000000", "stand\t1", "note a 0", "net n 7", "stand 1 "):
            self.refused(BadDesk, 1, read_desk, line)
            self.refused(BadDesk, 1, read_desk, "\n".join([line, *self.LINES, "x"]))
        self.refused(BadDesk, 2, read_desk, "stand 0\n")

    def test_notes_that_cannot_stand(self):
        for rows, number in (
            (["note a 0", "note a 0"], 3), (["note b 0", "note a 0"], 3), (["note a"], 2), (["note a 0 0"], 2),
            (["note A 0"], 2), (["note ninechars 0"], 2), (["note a 01"], 2), (["note a -1"], 2), (["note a x"], 2),
            (["note  a 0"], 2), (["Note a 0"], 2), (["note a 0", "note b 0", "note b 1"], 4), (["note a 1000000000"], 2),
            (["note a 0", ""], 3),
        ):
            self.refused(BadDesk, number, read_desk, self.text(None, 99, rows))
        self.refused(BadDesk, 1 + len(self.LINES) + 1, read_desk, self.text([*self.LINES, "note a 0"]))
        self.refused(BadDesk, 10, read_desk, self.text([*self.LINES[:8], "note a 0", *self.LINES[8:]]))

    def test_numbers_above_that_of_all_deeds(self):
        self.refused(BadDesk, 1, read_desk, self.text(None, 13))
        self.refused(BadDesk, 1, read_desk, "stand 1")
        self.refused(BadDesk, 1, read_desk, self.text(None, 13, ["note a 13"]))
        self.refused(BadDesk, 2, read_desk, self.text(None, 12, ["note a 13", "note b 14"]))
        self.refused(BadDesk, 3, read_desk, self.text(None, 0, ["note a 12", "note b 999999999"]))
        # Only if all else can stand.
        self.refused(BadDesk, 4, read_desk, self.text(["x"], 13, ["note a 13", "note b 99"]))
        self.refused(BadDesk, 2 + len(self.LINES), read_desk, self.text([*self.LINES, "drop bare"], 99))
        self.refused(BadDesk, 3 + len(self.LINES), read_desk, self.text([*self.LINES, "net x 1"], 99))

    def test_spoilt_lines_of_each_kind(self):
        spoilt = {
            0: ["net n", "net n 7 7", "net N 7", "net n 0", "net n 07", "net n x", "Net n 7", "net  n 7"],
            8: ["tick n 2,1 -", "tick n 2,1 - 0,1,0 0", "tick N 2,1 - 0,1,0", "tick m 2,1 - 0,1,0", "tick n - - 0,1,0",
                "tick n 2 - 0,1,0", "tick n 2,1, - 0,1,0", "tick n 2,1 3 0,1,0", "tick n 2,1 0,0 0,1,0", "tick n 2,1 - 0,2,0",
                "tick n 2,01 - 0,1,0", "tick n 2,1 - -", "tick n 2,-1 - 0,1,0", "tick n 2,1  0,1,0", "tick", "tick n",
                "tick n 2,1000001 - 0,1,0", "tick n -,1 - 0,1,0", "tick n 2,1 -- 0,1,0", "tick n 2;1 - 0,1,0", "tick n 5"],
            10: ["calm n", "calm n 0", "calm n 21", "calm n 02", "calm n x", "calm n 2 2", "calm N 2", "calm x 2", "calm"],
            11: ["link n a b 3", "link n a b 3 2 2", "link n a b 0 2", "link n a b 3 3", "link n a x 3 2", "link n a a 3 2",
                 "link n a b 03 2", "link n a b x 2", "link x a b 3 2", "link n A b 3 2", "link"],
            12: ["shut n b", "shut n b g g", "shut n a a", "shut n b x", "shut x b g", "shut n B g", "shut"],
            13: ["come n c 7", "come n c 7 8 9", "come n g 7 8", "come n C 7 8", "come n c x 8", "come n c 7 1000001",
                 "come x c 7 8", "come n c 7 -8", "come"],
            14: ["copy n", "copy n m m", "copy n n", "copy n M", "copy x m", "copy n ninechars", "copy"],
            15: ["leave n", "leave n c c", "leave n x", "leave n g", "leave x c", "leave"],
            20: ["tick bare 5 -", "tick bare - - -", "tick bare 5 - 0", "tick bare 5 0 -", "tick bare 5,5 - -"],
            21: ["drop", "drop bare bare", "drop x", "drop Bare", "", "stand 12", "undo", "goal g", "drop bare "],
        }
        for at, lines in spoilt.items():
            self.assertNotIn(self.LINES[at], lines)
            for line in lines:
                with self.subTest(line=line):
                    text = self.text([*self.LINES[:at], line, *self.LINES[at + 1:]])
                    self.refused(BadDesk, at + 2, read_desk, text)
                    # Ahead of it stands a note more.
                    text = self.text([*self.LINES[:at], line, *self.LINES[at + 1:]], 12, ["note a 0"])
                    self.refused(BadDesk, at + 3, read_desk, text)

    def test_spoilt_texts_of_books(self):
        for at in (1, 2, 3, 7):
            lines = [*self.LINES[:at], self.LINES[at] + " ", *self.LINES[at + 1:]]
            self.refused(BadDesk, 2, read_desk, self.text(lines))
        # One line more: the next deed's line is taken for one of the text.
        self.refused(BadDesk, 2, read_desk, self.text(["net n 8", *self.LINES[1:]]))
        # One or two lines less: what is left over of it is no deed.
        self.refused(BadDesk, 9, read_desk, self.text(["net n 6", *self.LINES[1:]]))
        self.refused(BadDesk, 8, read_desk, self.text(["net n 5", *self.LINES[1:]]))
        lines = [*self.LINES[:17], "net 2 0", *self.LINES[18:]]
        self.refused(BadDesk, 18, read_desk, self.text(lines))

    def test_cut_off_texts(self):
        whole = self.text().split("\n")
        many = len(whole)
        for length in range(1, many):
            cut = "\n".join(whole[:length])
            number = 1
            if 2 <= length <= 8:
                number = length + 1
            if 18 <= length <= 20:
                number = length + 1
            self.refused(BadDesk, number, read_desk, cut)
        for length in (1, 9, 10, 17, 21, 22, 23):
            cut = "\n".join(["stand 0", *whole[1:length]])
            self.same(desk_text(read_desk(cut)), cut)

    def test_lacking_lines_whatever_else_would_be_refused(self):
        for line in ("net n 4", "net m 999999999", "net x 3"):
            lines = [*self.LINES, line, "net 1 0 0", "x"]
            number = 1 + len(lines) + 1
            self.refused(BadDesk, number, read_desk, self.text(lines))
        # But not of a line without its form, nor behind a deed that is refused.
        self.refused(BadDesk, 2 + len(self.LINES), read_desk, self.text([*self.LINES, "net N 4", "net 1 0 0"]))
        self.refused(BadDesk, 2 + len(self.LINES), read_desk, self.text([*self.LINES, "net x 04", "net 1 0 0"]))
        self.refused(BadDesk, 2 + len(self.LINES), read_desk, self.text([*self.LINES, "drop bare", "net x 4", "net 1 0 0"]))
        # With all its lines it is refused where it begins.
        self.refused(BadDesk, 2 + len(self.LINES), read_desk, self.text([*self.LINES, "net n 1", "net 1 0 0"]))

    def test_drawn_desks(self):
        chance = random.Random(3)
        for _ in range(40):
            desk = Desk()
            for _ in range(25):
                try:
                    desk.lead(some_deed(chance, desk))
                except NetError:
                    desk.note(chance.choice(["a", "b", "cc"]))
                if chance.random() < 0.1 and desk.all_deeds()[0]:
                    desk.undo()
            text = desk_text(desk)
            self.same(desk_story(read_desk(text)), desk_story(desk))
            self.same(desk_text(read_desk(text)), text)

    def test_any_line_lost_or_doubled(self):
        lines = self.text(None, 0).split("\n")
        for at in range(1, len(lines)):
            for other in (lines[:at] + lines[at + 1:], lines[:at] + [lines[at]] + lines[at:]):
                text = "\n".join(other)
                try:
                    self.same(desk_text(read_desk(text)), text)
                except BadDesk as error:
                    self.assertTrue(at <= error.value <= len(other) + 1 or 2 <= error.value <= 9 or error.value == 18)

    def test_what_stood_is_not_changed_by_what_was_read(self):
        desk = led(*self.DEEDS, ("net", "far", PAIR), *[("tick", "far", tick) for tick in rough(Book(PAIR)) * 5])
        told = desk_story(desk)
        other = read_desk(desk_text(desk))
        other.lead(("drop", "far"))
        other.undo()
        other.undo()
        self.same(desk_story(desk), told)


if __name__ == "__main__":
    unittest.main()
