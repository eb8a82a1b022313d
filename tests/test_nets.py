import itertools
import random
import unittest

from downhillnet.books import Book
from downhillnet.bounds import heap_bound
from downhillnet.errors import (
    BadLink, BadName, BadNumber, BadStation, Held, NoDoor, NoLink, NoStation, NotPart, TooFew, TooMany, Unfit,
)
from downhillnet.flows import has_flow, judged, spare, worst_excess
from downhillnet.nets import (
    behind, part, parts_of, renamed, rounds, together, with_link, with_open, with_put, with_station, without_link,
    without_station,
)
from tests.tools import TEXT, Case, any_values, some_books

HEAD = "net 2 1 0\ngoal g\n"
PAIR = Book("net 4 2 1\ngoal home\nstation b 2 3\nstation a 1 0\nlink a b 2 2\nlink b home 1 3\nlink b a 1 0")
NAMES = "abcdefghijklmnopqrstuvwxyz"


def book_of(goal, stations, links, head="net 2 1 0"):
    """A book from words."""
    lines = [f"station {row}" for row in stations] + [f"link {row}" for row in links]
    return Book("\n".join([head, f"goal {goal}", *lines]))


def names_of(book):
    return [station[0] for station in book.stations]


def steps(book, least, ways):
    """All pairs of stations such that one comes from the one to the other, by going all ways."""
    names = names_of(book)
    near = {(one, other) for one, other, _, times in book.links if other != book.goal and times >= least}
    if ways == "either":
        near |= {(other, one) for one, other in near}
    near |= {(name, name) for name in names}
    for middle, one, other in itertools.product(names, repeat=3):
        if (one, middle) in near and (middle, other) in near:
            near.add((one, other))
    return near


class Together(Case):

    def test_to_the_letter(self):
        one = book_of("g", ["b 1 2", "a 0 0"], ["b a 3 1", "a g 1 2"])
        other = book_of("g", ["d 5 1"], ["d g 2 0"])
        text = HEAD + "station b 1 2\nstation a 0 0\nstation d 5 1\nlink b a 3 1\nlink a g 1 2\nlink d g 2 0"
        self.same(together(one, other).text, text)
        text = HEAD + "station d 5 1\nstation b 1 2\nstation a 0 0\nlink d g 2 0\nlink b a 3 1\nlink a g 1 2"
        self.same(together(other, one).text, text)
        self.same(behind(other, one).text, text)

    def test_behind_a_station_and_behind_the_goal(self):
        one = book_of("m", ["b 1 2", "a 0 0"], ["b a 3 1", "a m 1 2"])
        other = book_of("g", ["d 5 1", "m 0 7"], ["m g 2 0"])
        text = HEAD + "station b 1 2\nstation a 0 0\nstation d 5 1\nstation m 0 7\nlink b a 3 1\nlink a m 1 2\nlink m g 2 0"
        self.same(behind(one, other).text, text)
        self.same([one.text, other.text], [book_of("m", ["b 1 2", "a 0 0"], ["b a 3 1", "a m 1 2"]).text,
                                           book_of("g", ["d 5 1", "m 0 7"], ["m g 2 0"]).text])

    def test_heads_that_are_not_the_same(self):
        one = book_of("g", ["a 0 0"], [])
        for head in ("net 3 1 0", "net 2 0 0", "net 2 1 1"):
            for goal, stations in (("g", ["b 0 0"]), ("x", ["b 0 0"]), ("g", ["a 0 0"])):
                other = book_of(goal, stations, [], head)
                for call in (together, behind):
                    self.refused(Unfit, None, call, one, other)
                    self.refused(Unfit, None, call, other, one)

    def test_no_door(self):
        one = book_of("m", ["a 0 0", "c 0 0"], [])
        for other in (book_of("g", ["b 0 0"], []), book_of("g", ["a 0 0", "c 0 0"], [])):
            self.refused(NoDoor, "m", together, one, other)
            self.refused(NoDoor, "m", behind, one, other)
        other = book_of("g", ["m 0 0"], [])
        self.refused(NoDoor, "m", together, one, other)
        self.same(names_of(behind(one, other)), ["a", "c", "m"])
        self.refused(NoDoor, "g", together, other, one)
        self.refused(NoDoor, "g", behind, other, one)

    def test_names_that_stand_in_both(self):
        one = book_of("g", ["d 0 0", "b 0 0", "a 0 0"], [])
        for stations, name in ((["b 0 0"], "b"), (["d 0 0"], "d"), (["d 0 0", "c 0 0", "b 0 0"], "b")):
            self.refused(Unfit, name, together, one, book_of("g", stations, []))
            self.refused(Unfit, name, behind, one, book_of("g", stations, []))
            self.refused(Unfit, name, behind, one, book_of("z", ["g 0 0", *stations], []))
        # The goal of the other, too, must not be a station of the one.
        self.refused(Unfit, "a", behind, one, book_of("a", ["g 0 0"], []))
        self.refused(Unfit, "a", behind, one, book_of("a", ["g 0 0", "b 0 0"], []))
        self.refused(Unfit, "b", behind, one, book_of("b", ["g 0 0", "d 0 0"], []))

    def test_too_many_behind_what_does_not_fit(self):
        def wide(goal, names):
            return book_of(goal, [f"{name} 0 0" for name in names], [])
        self.same(len(together(wide("zz", NAMES[:10]), wide("zz", NAMES[10:20]))), 20)
        self.same(len(behind(wide("k", NAMES[:10]), wide("zz", NAMES[10:20]))), 20)
        self.refused(TooMany, 21, together, wide("zz", NAMES[:10]), wide("zz", NAMES[10:21]))
        self.refused(TooMany, 21, behind, wide("k", NAMES[:10]), wide("zz", NAMES[10:21]))
        self.refused(TooMany, 26, behind, wide("zz", NAMES[:20]), wide("zz", NAMES[20:]))
        self.refused(Unfit, "k", together, wide("zz", NAMES[:11]), wide("zz", NAMES[10:26]))
        self.refused(NoDoor, "k", together, wide("k", NAMES[:10]), wide("zz", NAMES[10:26]))

    def linked(self, names, many):
        """A book of these stations with so many links."""
        pairs = list(itertools.permutations(names, 2))[:many]
        return book_of("z", [f"{name} 0 0" for name in names], [f"{one} {other} 1 1" for one, other in pairs])

    def test_too_many_links(self):
        one = self.linked("abcdef", 30)
        self.same(len(together(one, self.linked("ghijkl", 30)).links), 60)
        for many in (31, 40):
            for call in (together, behind):
                self.refused(TooMany, 30 + many, call, one, self.linked("ghijklm", many))
        # The stations come first.
        wide = self.linked("ghijklmnopqrstu", 60)
        self.refused(TooMany, 21, together, one, wide)

    def test_flows_of_the_whole(self):
        kinds = set()
        chance = random.Random(1)
        for one, other in zip(some_books(chance, 300), some_books(chance, 300)):
            one = self.fitting(one, other)
            whole = together(renamed(one, "h", "g"), other)
            self.assertIs(has_flow(whole), has_flow(one) and has_flow(other))
            self.assertGreaterEqual(heap_bound(whole), max(heap_bound(one), heap_bound(other)))
            self.assertEqual(behind(renamed(one, "h", "g"), other), whole)
            kinds |= self.behind_stations(one, other)
        self.assertEqual(len(kinds), 3)

    def fitting(self, one, other):
        """A book like one, with the head of other, the goal h and an x ahead of each name of a station."""
        called = {name: "x" + name for name in names_of(one)}
        stations = [f"{called[name]} {level} {put}" for name, level, put in one.stations]
        links = [f"{called[u]} {called.get(v, 'h')} {room} {min(times, other.window)}" for u, v, room, times in one.links]
        return book_of("h", stations, links, other.text.split("\n")[0])

    def behind_stations(self, one, other):
        """A flow behind each station of the other one is there exactly if there is as much spare."""
        puts = sum(station[2] for station in one.stations)
        kinds = set()
        for name, _, put in other.stations:
            whole = behind(renamed(one, "h", name), other)
            self.same([names_of(whole), whole.goal], [names_of(one) + names_of(other), "g"])
            right = has_flow(one) and has_flow(other) and spare(other, name) >= puts
            self.assertIs(has_flow(whole), right)
            self.assertIs(right, has_flow(one) and has_flow(with_put(other, name, put + puts)))
            kinds.add((right, has_flow(one) and has_flow(other)))
        return kinds


class Changed(Case):

    def test_renamed(self):
        self.same(renamed(PAIR, "a", "zz").text, PAIR.text.replace("station a", "station zz").replace("link a b", "link zz b")
                  .replace("link b a", "link b zz"))
        self.same(renamed(PAIR, "home", "q").text, PAIR.text.replace("home", "q"))
        self.same([renamed(PAIR, name, name).text for name in ("a", "b", "home")], [PAIR.text] * 3)
        self.same(PAIR.text.count("\n"), 6)

    def test_renamed_refuses(self):
        for name in ["c", "", "ho", ("a",), ["a"], *any_values()]:
            for new in ("x", "", None, "a"):
                with self.assertRaises(NoStation) as caught:
                    renamed(PAIR, name, new)
                self.assertIs(caught.exception.value, name)
        for new in ["", "A", "ninechars", "a b", 1, ("x",), *any_values()]:
            for name in ("a", "home"):
                with self.assertRaises(BadName) as caught:
                    renamed(PAIR, name, new)
                self.assertIs(caught.exception.value, new)
        for name, new in (("a", "b"), ("a", "home"), ("home", "a"), ("b", "home")):
            self.refused(Held, new, renamed, PAIR, name, new)

    def test_names_do_not_matter(self):
        for book in some_books(random.Random(2), 100):
            name = book.stations[0][0]
            other = renamed(renamed(book, name, "zz"), "g", "a" if name == "a" else "yy")
            self.same([has_flow(other), worst_excess(other), heap_bound(other)],
                      [has_flow(book), worst_excess(book), heap_bound(book)])
            self.same(other.links, tuple((self.new(name, u), self.new(name, v), room, times)
                                         for u, v, room, times in book.links))

    def new(self, name, other):
        """How a station, or the goal, is called then."""
        return "zz" if other == name else ("a" if name == "a" else "yy") if other == "g" else other

    def test_without_link(self):
        lines = PAIR.text.split("\n")
        for number in range(3):
            self.same(without_link(PAIR, number).text, "\n".join(lines[:4 + number] + lines[5 + number:]))
        for value in [3, -1, True, False, "0", None, ("a", "b"), 10 ** 30, *any_values()]:
            with self.assertRaises(NoLink) as caught:
                without_link(PAIR, value)
            self.assertIs(caught.exception.value, value)

    def test_without_station(self):
        self.same(without_station(PAIR, "a").text, "net 4 2 1\ngoal home\nstation b 2 3\nlink b home 1 3")
        self.same(without_station(PAIR, "b").text, "net 4 2 1\ngoal home\nstation a 1 0")
        one = without_station(PAIR, "b")
        self.refused(TooFew, 1, without_station, one, "a")
        for value in ["home", "c", "", ("a",), *any_values()]:
            for book in (PAIR, one):
                with self.assertRaises(NoStation) as caught:
                    without_station(book, value)
                self.assertIs(caught.exception.value, value)

    def test_with_link(self):
        self.same(with_link(PAIR, ("a", "home", 1000, 4)).text, PAIR.text + "\nlink a home 1000 4")
        self.same(with_link(PAIR, ("a", "home", 1, 0)).links[3], ("a", "home", 1, 0))
        for value in [
            ("a", "home", 0, 4), ("a", "home", 1001, 4), ("a", "home", 1, 5), ("a", "home", 1, -1), ("a", "b", 1, 1),
            ("b", "home", 1, 1), ("a", "a", 1, 1), ("home", "a", 1, 1), ("a", "c", 1, 1), ("c", "a", 1, 1), ("a", "home", 1),
            ("a", "home", 1, 1, 1), ["a", "home", 1, 1], ("a", "home", True, 1), ("a", "home", 1, True), ("a", "home", "1", 1),
            (("a",), "home", 1, 1), ("a", ["home"], 1, 1), ("a", None, 1, 1), "link a home 1 1", *any_values(),
        ]:
            with self.assertRaises(BadLink) as caught:
                with_link(PAIR, value)
            self.assertIs(caught.exception.value, value)

    def test_with_link_in_a_full_book(self):
        pairs = [(one, other) for one, other in itertools.permutations("abcdefghi", 2)][:60]
        full = book_of("z", [f"{name} 0 0" for name in "abcdefghi"], [f"{one} {other} 1 1" for one, other in pairs])
        self.refused(TooMany, 61, with_link, full, ("a", "z", 1, 1))
        self.refused(BadLink, ("a", "b", 1, 1), with_link, full, ("a", "b", 1, 1))
        self.refused(BadLink, None, with_link, full, None)
        less = without_link(full, 0)
        self.same(len(with_link(less, ("a", "z", 1, 1)).links), 60)

    def test_with_station(self):
        for station in (("c", 0, 0), ("zzzzzzzz", 300000000, 1000000)):
            other = with_station(PAIR, station)
            self.same([other.stations, other.links], [(*PAIR.stations, station), PAIR.links])
        for value in [
            ("a", 0, 0), ("home", 0, 0), ("c", -1, 0), ("c", 300000001, 0), ("c", 0, 1000001), ("c", 0, -1), ("c", True, 0),
            ("c", 0, False), ("C", 0, 0), ("", 0, 0), ("c", 0), ("c", 0, 0, 0), ["c", 0, 0], (1, 0, 0), "c", *any_values(),
        ]:
            with self.assertRaises(BadStation) as caught:
                with_station(PAIR, value)
            self.assertIs(caught.exception.value, value)
        full = book_of("zz", [f"{name} 0 0" for name in NAMES[:20]], [])
        self.refused(TooMany, 21, with_station, full, ("z", 0, 0))
        self.refused(BadStation, ("a", 0, 0), with_station, full, ("a", 0, 0))
        self.same(len(with_station(without_station(full, "a"), ("z", 0, 0))), 20)

    def test_with_put(self):
        for put in (0, 1, 1000000):
            self.same(with_put(PAIR, "a", put).text, PAIR.text.replace("station a 1 0", f"station a 1 {put}"))
        for value in ["home", "c", ("a",), *any_values()]:
            with self.assertRaises(NoStation) as caught:
                with_put(PAIR, value, -1)
            self.assertIs(caught.exception.value, value)
        for value in [-1, 1000001, True, "1", None, *any_values()]:
            with self.assertRaises(BadNumber) as caught:
                with_put(PAIR, "a", value)
            self.assertIs(caught.exception.value, value)

    def test_with_open(self):
        for room, times in ((1, 0), (1000, 4), (2, 2)):
            self.same(with_open(PAIR, 1, room, times).text, PAIR.text.replace("home 1 3", f"home {room} {times}"))
        for value in [-1, 3, True, "0", None, *any_values()]:
            with self.assertRaises(NoLink) as caught:
                with_open(PAIR, value, None, None)
            self.assertIs(caught.exception.value, value)
        for value in [0, 1001, True, "1", None, *any_values()]:
            with self.assertRaises(BadNumber) as caught:
                with_open(PAIR, 1, value, -5)
            self.assertIs(caught.exception.value, value)
        for value in [-1, 5, True, "1", None, *any_values()]:
            with self.assertRaises(BadNumber) as caught:
                with_open(PAIR, 1, 1, value)
            self.assertIs(caught.exception.value, value)

    def test_more_of_what_carries_keeps_a_flow(self):
        for book in some_books(random.Random(3), 120):
            if not has_flow(book):
                continue
            for number, (_, _, room, times) in enumerate(book.links):
                self.assertIs(has_flow(with_open(book, number, room + 1, times)), True)
                self.assertIs(has_flow(with_open(book, number, room, book.window)), True)
            for name, _, put in book.stations:
                self.assertIs(has_flow(with_put(book, name, put // 2)), True)
                if (name, "g") not in [link[:2] for link in book.links]:
                    self.assertIs(has_flow(with_link(book, (name, "g", 1, 1))), True)

    def test_less_of_what_carries_can_take_it_away(self):
        row = book_of("g", ["a 0 1", "b 0 0"], ["a b 1 2", "b g 1 2"])
        self.assertIs(has_flow(row), True)
        self.same([has_flow(without_station(row, "b")), judged(without_link(row, 1))], [False, ("cut", ("a", "b"))])

    def test_the_elder_book_stays(self):
        book = Book(PAIR.text)
        told = dict(vars(book))
        with_put(book, "a", 3), with_open(book, 0, 5, 1), without_link(book, 0), without_station(book, "a")
        with_link(book, ("a", "home", 1, 1)), with_station(book, ("c", 1, 1)), renamed(book, "a", "c")
        self.same(vars(book), told)


class Parts(Case):

    def test_beside_all_steps(self):
        sizes = set()
        for book in [*some_books(random.Random(4), 250), Book(TEXT), PAIR]:
            either, along = steps(book, 0, "either"), steps(book, 1, "along")
            names = names_of(book)
            told = sorted({tuple(sorted(b for b in names if (a, b) in either)) for a in names})
            self.same(parts_of(book), tuple(told))
            lots = {tuple(sorted(b for b in names if (a, b) in along and (b, a) in along)) for a in names}
            self.same(rounds(book), tuple(sorted(lot for lot in lots if len(lot) > 1)))
            sizes.add((len(told), len(rounds(book))))
            self.right_parts(book)
        self.assertLessEqual({(1, 0), (2, 0), (3, 0), (1, 1)}, sizes)

    def right_parts(self, book):
        flows = []
        for names in parts_of(book):
            other = part(book, names)
            self.same(other.stations, tuple(station for station in book.stations if station[0] in names))
            self.same(other.links, tuple(link for link in book.links if link[0] in names))
            self.same([other.goal, other.window, other.margin, other.late],
                      [book.goal, book.window, book.margin, book.late])
            flows.append(has_flow(other))
        self.assertIs(has_flow(book), all(flows))

    def test_rings_and_links_that_never_open(self):
        book = book_of("g", ["d 0 0", "c 0 0", "b 0 0", "a 0 0", "f 0 0", "e 0 0"],
                       ["a b 1 1", "b a 1 1", "c b 1 0", "c d 1 1", "d c 1 0", "e g 1 1", "f g 1 1"])
        self.same(parts_of(book), (("a", "b", "c", "d"), ("e",), ("f",)))
        self.same(rounds(book), (("a", "b"),))
        self.same(rounds(with_open(book, 4, 1, 1)), (("a", "b"), ("c", "d")))
        wide = with_open(with_link(with_open(book, 4, 1, 1), ("a", "d", 1, 1)), 2, 1, 1)
        self.same(rounds(wide), (("a", "b", "c", "d"),))
        self.same([parts_of(wide), part(wide, ("e",)).text], [parts_of(book), "net 2 1 0\ngoal g\nstation e 0 0\nlink e g 1 1"])
        self.same(part(book, ("a", "b", "c", "d")).stations, book.stations[:4])

    def test_a_long_ring(self):
        names = NAMES[:20]
        book = book_of("zz", [f"{name} 0 0" for name in names[::-1]],
                       [f"{one} {other} 1 1" for one, other in zip(names, names[1:] + names[0])])
        self.same([rounds(book), parts_of(book)], [(tuple(names),), (tuple(names),)])
        self.same([rounds(without_link(book, 7)), parts_of(without_link(book, 7))], [(), (tuple(names),)])

    def test_the_goal_does_not_join(self):
        book = book_of("g", ["a 0 0", "b 0 0"], ["a g 1 1", "b g 1 1"])
        self.same([parts_of(book), rounds(book)], [(("a",), ("b",)), ()])

    def test_no_parts(self):
        book = book_of("g", ["a 0 0", "b 0 0", "c 0 0"], ["a b 1 1", "c g 1 1"])
        self.same(parts_of(book), (("a", "b"), ("c",)))
        for value in [("a",), ("b", "a"), ["a", "b"], ("a", "b", "c"), (), "c", ("g",), ("a", "a"), (("c",),), *any_values()]:
            with self.assertRaises(NotPart) as caught:
                part(book, value)
            self.assertIs(caught.exception.value, value)


if __name__ == "__main__":
    unittest.main()
