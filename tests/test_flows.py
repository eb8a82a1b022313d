import itertools
import random
import unittest

from downhillnet.books import Book
from downhillnet.errors import BadLot, NoFlow, NoStation
from downhillnet.flows import (
    excess, greatest_worst, has_flow, is_cut, is_flow, judged, least_worst, shares, shows_judged, shows_shares, spare,
    spare_of, worst_excess,
)
from tests.tools import TEXT, Case, all_lots, any_values, some_books

FULL = Book(TEXT.replace("station a 2 3", "station a 2 4").replace("link b home 1 3", "link b home 1 4"))
OVER = Book(TEXT.replace("station a 2 3", "station a 2 5"))
# a and b lead to one another; both lead home, and nothing leads from c, at which nothing is put in.
RING = Book(
    "net 3 0 0\ngoal home\nstation b 0 1\nstation a 0 2\nstation c 0 0\n"
    "link a b 2 3\nlink b a 1 3\nlink a home 1 2\nlink b home 1 3\nlink a c 5 3"
)
BARE = Book("net 1 0 0\ngoal g\nstation a 0 0\nstation b 0 0")
BAD_LOTS = [
    (), "a", ["a"], ("home",), ("a", "home"), ("b", "a"), ("a", "a"), ("x",), (1,), (True,), ("a", None), {"a": 1},
]


def told_excess(book, names):
    """The excess of a lot, word by word."""
    puts = sum(put for name, _, put in book.stations if name in names)
    return puts - sum(room * times for one, other, room, times in book.links if one in names and other not in names)


def told_flow(book, value, more=()):
    """Whether integers, one for each link, are a flow, word by word; with more put in, by names."""
    if not all(0 <= many <= link[2] * link[3] for many, link in zip(value, book.links)):
        return False
    for name, _, put in book.stations:
        out = sum(many for many, link in zip(value, book.links) if link[0] == name)
        come = sum(many for many, link in zip(value, book.links) if link[1] == name)
        if out - come != put + dict(more).get(name, 0):
            return False
    return True


def all_flows(book):
    """All flows of a small book."""
    rows = itertools.product(*[range(room * times + 1) for _, _, room, times in book.links])
    return [row for row in rows if told_flow(book, row)]


def lacks(book, more):
    """Whether with more put in, by names, each lot lacks to an excess above 0."""
    return all(told_excess(book, lot) + sum(more.get(name, 0) for name in lot) <= 0 for lot in all_lots(book))


def sums_up(total, many):
    """All tuples of so many integers from 0 on with this sum."""
    if many == 1:
        return [(total,)]
    return [(first, *rest) for first in range(total + 1) for rest in sums_up(total - first, many - 1)]


def told_shares(book, names):
    """All right shares of a lot of a book with a flow, by going through all."""
    best = []
    for total in itertools.count():
        rows = [row for row in sums_up(total, len(names)) if lacks(book, dict(zip(names, row)))]
        if not rows:
            return best
        best = rows


class Excess(Case):

    def test_of_all_lots(self):
        for book in [*some_books(random.Random(1), 60), RING, FULL, OVER, BARE]:
            for lot in all_lots(book):
                self.same(excess(book, lot), told_excess(book, lot))
                self.assertIs(is_cut(book, lot), told_excess(book, lot) > 0)

    def test_links_between_stations_of_the_lot_do_not_count(self):
        told = [excess(RING, names) for names in (("a",), ("b",), ("c",), ("a", "b"), ("a", "b", "c"), ("a", "c"))]
        self.same(told, [2 - 6 - 2 - 15, 1 - 3 - 3, 0, 3 - 2 - 3 - 15, 3 - 2 - 3, 2 - 6 - 2])

    def test_great_numbers(self):
        book = Book("net 40 0 0\ngoal g\nstation a 0 1000000\nstation b 0 999999\nlink a g 1000 40\nlink b a 1000 40")
        self.same([excess(book, ("a",)), excess(book, ("b",)), excess(book, ("a", "b"))], [960000, 959999, 1959999])


class Judged(Case):

    def test_beside_all_flows_and_all_lots(self):
        kinds = {True: 0, False: 0}
        for book in some_books(random.Random(2), 500):
            ways = 1
            for _, _, room, times in book.links:
                ways *= room * times + 1
            if ways > 3000:
                continue
            there = len(all_flows(book)) > 0
            cuts = [lot for lot in all_lots(book) if told_excess(book, lot) > 0]
            self.assertIs(there, not cuts)
            self.right(book, there)
            kinds[there] += 1
        self.assertGreater(min(kinds.values()), 50)

    def right(self, book, there):
        """What is told of the book is right; there tells whether there is a flow."""
        told = judged(book)
        self.assertIs(told.__class__, tuple)
        self.assertIs(has_flow(book), there)
        word, shown = told
        self.same(word, "flow" if there else "cut")
        self.assertIs(shown.__class__, tuple)
        if there:
            self.assertEqual(len(shown), len(book.links))
            self.assertTrue(told_flow(book, shown))
            self.assertIs(is_flow(book, shown), True)
        else:
            self.assertIn(shown, all_lots(book))
            self.assertGreater(told_excess(book, shown), 0)
            self.assertIs(is_cut(book, shown), True)
        self.assertIs(shows_judged(book, told), True)
        self.assertIs(shows_judged(book, ("cut" if there else "flow", shown)), False)

    def test_beside_all_lots(self):
        for book in some_books(random.Random(3), 300):
            self.right(book, lacks(book, {}))

    def test_at_the_border(self):
        self.right(FULL, True)
        self.same([worst_excess(FULL), worst_excess(OVER)], [0, 2])
        self.right(OVER, False)
        for book in (RING, BARE, Book(TEXT)):
            self.right(book, True)

    def test_a_packet_more_at_the_border(self):
        for put, there in ((0, True), (6, True), (7, False)):
            self.right(Book(f"net 3 0 0\ngoal g\nstation a 0 {put}\nlink a g 2 3"), there)
            self.right(Book(f"net 3 0 0\ngoal g\nstation b 0 0\nstation a 0 {put}\nlink b g 3 2\nlink a b 9 3"), there)
            self.right(Book(f"net 3 0 0\ngoal g\nstation b 0 0\nstation a 0 {put}\nlink a b 3 2\nlink b g 9 3"), there)

    def test_without_links(self):
        self.same([judged(BARE), is_flow(BARE, ())], [("flow", ()), True])
        book = Book("net 1 0 0\ngoal g\nstation a 0 0\nstation b 0 1")
        self.same([judged(book), is_flow(book, ()), worst_excess(book)], [("cut", ("b",)), False, 1])

    def test_a_station_without_a_way_to_the_goal(self):
        book = Book("net 1 0 0\ngoal g\nstation a 0 1\nstation b 0 1\nlink a b 9 1\nlink b a 9 1\nlink b g 9 0")
        self.same([judged(book), has_flow(book)], [("cut", ("a", "b")), False])
        self.right(Book(book.text.replace("link b g 9 0", "link b g 2 1")), True)

    def test_what_was_led_one_way_has_to_go_another_one(self):
        # The shortest way of a goes over b, which is needed for what c puts in; whatever stands first in the book.
        stations = ["a 0 1", "b 0 0", "c 0 1", "d 0 0", "e 0 0"]
        links = ["a b", "b g", "a d", "d e", "e g", "c b"]
        for rows in itertools.permutations(stations):
            for first in range(len(links)):
                order = links[first:] + links[:first]
                lines = [f"station {row}" for row in rows] + [f"link {row} 1 1" for row in order]
                book = Book("\n".join(["net 1 0 0", "goal g", *lines]))
                self.same(judged(book), ("flow", tuple(int(row != "a b") for row in order)))
                self.same([shares(book, ("a",)), spare_of(book, ("b", "c", "e"))], [(0,), 0])

    def test_what_was_led_one_way_goes_another_one_for_more(self):
        stations = ["a 0 1", "b 0 0", "c 0 0", "d 0 0", "e 0 0"]
        links = ["a b", "b g", "a d", "d e", "e g", "c b"]
        for rows in itertools.permutations(stations):
            lines = [f"station {row}" for row in rows] + [f"link {row} 1 1" for row in links]
            book = Book("\n".join(["net 1 0 0", "goal g", *lines]))
            self.same([shares(book, ("c",)), spare(book, "a"), spare_of(book, ("a", "b", "c"))], [(1,), 1, 1])

    def test_the_greatest_books(self):
        chance = random.Random(4)
        names = "abcdefghijklmnopqrst"
        pairs = [(one, other) for one in names for other in [*names, "goal"] if one != other]
        kinds = set()
        for most in (1, 300, 3000, 30000, 1000000):
            for _ in range(4):
                lines = ["net 40 0 0", "goal goal", *[f"station {name} 0 {chance.randint(0, most)}" for name in names]]
                for one, other in sorted(chance.sample(pairs, 40)) + [(name, "goal") for name in names]:
                    line = f"link {one} {other} {chance.randint(1, 1000)} {chance.randint(0, 40)}"
                    if line.rsplit(" ", 2)[0] not in [ahead.rsplit(" ", 2)[0] for ahead in lines]:
                        lines.append(line)
                book = Book("\n".join(lines))
                word, shown = judged(book)
                self.assertTrue(told_flow(book, shown) if word == "flow" else told_excess(book, shown) > 0)
                self.same([shows_judged(book, (word, shown)), worst_excess(book) > 0], [True, word == "cut"])
                kinds.add(word)
        self.assertEqual(kinds, {"flow", "cut"})


class Shown(Case):

    def test_all_rows_of_numbers(self):
        for book in some_books(random.Random(5), 200):
            carriages = [room * times for _, _, room, times in book.links]
            if len(carriages) <= 3:
                for row in itertools.product(*[(0, 1, 2, carriage, carriage + 1) for carriage in carriages]):
                    self.assertIs(is_flow(book, row), told_flow(book, row))

    def test_near_flows(self):
        for book in [*some_books(random.Random(6), 200), RING, FULL]:
            if has_flow(book):
                flow = judged(book)[1]
                for at, many in enumerate(flow):
                    for other in (many - 1, many + 1, -many - 1, str(many), None, (many,), [many], True, False):
                        row = (*flow[:at], other, *flow[at + 1:])
                        self.assertIs(is_flow(book, row), False)
                        self.assertIs(shows_judged(book, ("flow", row)), False)
                for row in (list(flow), (*flow, 0), flow[:-1] if flow else (0,), dict(enumerate(flow)), str(flow)):
                    self.assertIs(is_flow(book, row), False)
                    self.assertIs(shows_judged(book, ("flow", row)), False)

    def test_bools_are_no_numbers(self):
        book = Book("net 1 0 0\ngoal g\nstation a 0 1\nstation b 0 0\nlink a g 1 1\nlink b g 1 1")
        rows = ((1, 0), (True, 0), (1, False))
        self.same([is_flow(book, row) for row in rows], [True, False, False])
        self.same([shows_judged(book, ("flow", row)) for row in rows], [True, False, False])

    def test_a_flow_led_round_a_ring(self):
        for row, right in (
            ((0, 0, 2, 1, 0), True), ((3, 3, 2, 1, 0), True), ((2, 1, 1, 2, 0), True), ((4, 4, 2, 1, 0), False),
            ((1, 0, 2, 1, 0), False), ((3, 2, 1, 3, 0), False), ((-1, -1, 2, 1, 0), False), ((0, 0, 2, 1, 1), False),
        ):
            self.same([is_flow(RING, row), shows_judged(RING, ("flow", row))], [right, right])

    def test_up_to_the_carriage(self):
        book = Book("net 2 0 0\ngoal g\nstation a 0 3\nlink a g 3 1")
        self.same([is_flow(book, (3,)), is_flow(book, (2,)), is_flow(book, (4,))], [True, False, False])
        book = Book("net 2 0 0\ngoal g\nstation a 0 4\nlink a g 3 1")
        self.same([is_flow(book, (4,)), is_flow(book, (3,))], [False, False])

    def test_values_of_all_kinds(self):
        for book in (Book(TEXT), RING, FULL, OVER):
            for value in [*any_values(), 0, "abc", ("home",)]:
                with self.subTest(value=value):
                    self.assertIs(is_flow(book, value), False)
                    self.assertIs(is_cut(book, value), False)
                    self.assertIs(shows_judged(book, value), False)
                    self.assertIs(shows_judged(book, ("flow", value)), False)
                    self.assertIs(shows_judged(book, ("cut", value)), False)
                    self.assertIs(shows_judged(book, (value, judged(book)[1])), False)

    def test_no_cuts(self):
        self.same([is_cut(OVER, ("a",)), is_cut(OVER, ("a", "b")), is_cut(OVER, ("b",))], [True, True, False])
        for value in [*BAD_LOTS, ("b",), ["a", "b"], ("a", "b", "home")]:
            self.assertIs(is_cut(OVER, value), False)
            self.assertIs(shows_judged(OVER, ("cut", value)), False)
        self.same(is_cut(FULL, ("a",)), False)

    def test_all_cuts_are_shown(self):
        for book in [OVER, *some_books(random.Random(7), 60)]:
            for lot in all_lots(book):
                self.assertIs(shows_judged(book, ("cut", lot)), told_excess(book, lot) > 0)

    def test_other_forms(self):
        for book in (FULL, OVER):
            word, shown = judged(book)
            for value in [[word, shown], (word,), (word, shown, ()), (word.upper(), shown), (shown, word), shown, word]:
                self.assertIs(shows_judged(book, value), False)


class Worst(Case):

    def test_beside_all_lots(self):
        signs = set()
        for book in [*some_books(random.Random(8), 400), RING, FULL, OVER, BARE, Book(TEXT)]:
            lots = all_lots(book)
            most = max(told_excess(book, lot) for lot in lots)
            self.same(worst_excess(book), most)
            worst = [set(lot) for lot in lots if told_excess(book, lot) == most]
            least = tuple(sorted(set.intersection(*worst)))
            greatest = tuple(sorted(set.union(*worst)))
            if most < 0:
                least = greatest = None
            self.same([least_worst(book), greatest_worst(book)], [least if least else None, greatest])
            signs.add((most > 0) - (most < 0))
            for lot in (least, greatest):
                if lot:
                    self.same(excess(book, lot), most)
        self.assertEqual(signs, {-1, 0, 1})

    def test_tight_lots_without_a_common_station(self):
        text = "net 1 0 0\ngoal g\nstation b 0 1\nstation a 0 2\nstation c 0 0\n"
        book = Book(text + "link b g 1 1\nlink a g 2 1\nlink c g 1 1")
        self.same([worst_excess(book), least_worst(book), greatest_worst(book)], [0, None, ("a", "b")])

    def test_tight_lots_with_a_common_station(self):
        book = Book("net 1 0 0\ngoal g\nstation b 0 0\nstation a 0 2\nlink b g 2 1\nlink a b 2 1")
        self.same([worst_excess(book), least_worst(book), greatest_worst(book)], [0, ("a",), ("a", "b")])

    def test_a_station_that_neither_gets_nor_passes_anything_is_tight(self):
        self.same([worst_excess(BARE), least_worst(BARE), greatest_worst(BARE)], [0, None, ("a", "b")])
        book = Book("net 1 0 0\ngoal g\nstation b 0 0\nstation a 0 0\nlink a g 1 1")
        self.same([worst_excess(book), least_worst(book), greatest_worst(book)], [0, ("b",), ("b",)])

    def test_names_ascend(self):
        text = "net 1 0 0\ngoal g\nstation z 0 2\nstation b 0 2\nstation m 0 2\n"
        book = Book(text + "link z b 1 1\nlink b m 1 1\nlink m g 1 1")
        self.same([least_worst(book), greatest_worst(book), judged(book)[1]], [("b", "m", "z")] * 3)


class Spares(Case):

    def small(self, seed, many):
        """Books with a flow, and few ways to put in more."""
        books = some_books(random.Random(seed), many)
        return [book for book in [*books, RING, FULL, BARE, Book(TEXT)] if lacks(book, {}) and self.total(book) <= 14]

    def total(self, book):
        return sum(room * times for _, other, room, times in book.links if other == book.goal)

    def test_spare_beside_all_lots(self):
        for book in [book for book in some_books(random.Random(9), 400) if lacks(book, {})]:
            for name, _, _ in book.stations:
                least = min(-told_excess(book, lot) for lot in all_lots(book) if name in lot)
                self.same(spare(book, name), least)
                self.same([spare_of(book, (name,)), shares(book, (name,))], [least, (least,)])

    def test_spare_by_putting_in_more(self):
        for book in self.small(10, 60):
            for at, (name, level, put) in enumerate(book.stations):
                much = spare(book, name)
                for more, there in ((0, True), (much, True), (much + 1, False)):
                    text = book.text.replace(f"station {name} {level} {put}", f"station {name} {level} {put + more}")
                    self.assertIs(has_flow(Book(text)), there)

    def test_shares_beside_a_going_through_all(self):
        seen = 0
        for book in self.small(11, 600):
            for lot in all_lots(book):
                right = told_shares(book, lot)
                self.same(spare_of(book, lot), sum(right[0]))
                self.assertIn(shares(book, lot), right)
                self.near(book, lot, right)
                seen += len(right) > 1
        self.assertGreater(seen, 20)

    def near(self, book, lot, right):
        """Of rows near right shares exactly those are shown that are right ones."""
        rows = set(right[:12])
        for row in right[:4]:
            for at in range(len(row)):
                for step in (-1, 1):
                    one = (*row[:at], row[at] + step, *row[at + 1:])
                    rows.add(one)
                    rows.update((*one[:to], one[to] - step, *one[to + 1:]) for to in range(len(row)))
        for row in sorted(rows):
            self.assertIs(shows_shares(book, lot, row), row in right)

    def test_sums_of_spares(self):
        for book in [book for book in some_books(random.Random(12), 120) if lacks(book, {})]:
            lots = all_lots(book)
            of_lot = {lot: spare_of(book, lot) for lot in lots}
            of_lot[()] = 0
            for one in lots:
                alone = [spare(book, name) for name in one]
                self.assertLessEqual(of_lot[one], sum(alone))
                self.assertGreaterEqual(of_lot[one], max(alone))
                for other in lots:
                    union = tuple(sorted({*one, *other}))
                    common = tuple(name for name in one if name in other)
                    self.assertLessEqual(of_lot[union] + of_lot[common], of_lot[one] + of_lot[other])

    def test_more_than_a_book_may_put_in(self):
        lines = "".join(f"\nlink a {name} 1000 40\nlink {name} g 1000 40" for name in "bcdefhijklmnopqrstu")
        stations = "".join(f"\nstation {name} 0 0" for name in "bcdefhijklmnopqrstu")
        book = Book("net 40 0 0\ngoal g\nstation a 0 700000" + stations + lines + "\nlink a g 1000 40")
        self.same([spare(book, "a"), spare_of(book, ("a", "b"))], [100000, 100000])
        self.same(spare(Book(book.text.replace("700000", "0")), "a"), 800000)

    def test_shares_that_do_not_take_what_others_put_in(self):
        # Both lead over c; without care a would be given what b puts in.
        book = Book(
            "net 1 0 0\ngoal g\nstation a 0 0\nstation b 0 3\nstation c 0 0\nlink a c 9 1\nlink b c 9 1\nlink c g 5 1")
        self.same([shares(book, ("a",)), spare_of(book, ("a", "b", "c")), sum(shares(book, ("a", "c")))], [(2,), 2, 2])
        for row, right in (((2, 0), True), ((1, 1), True), ((0, 2), True), ((3, 0), False), ((1, 0), False)):
            self.assertIs(shows_shares(book, ("a", "b"), row), right)

    def test_a_way_for_one_only(self):
        book = Book("net 1 0 0\ngoal g\nstation b 0 0\nstation a 0 0\nlink a g 2 1\nlink b a 1 1")
        rows = ((2, 0), (1, 1), (0, 2), (0, 1), (3, -1), (2, 1))
        self.same([shows_shares(book, ("a", "b"), row) for row in rows], [True, True, False, False, False, False])

    def test_nothing_to_spare(self):
        self.same([spare(FULL, "a"), spare(FULL, "b"), spare_of(FULL, ("a", "b"))], [0, 0, 0])
        self.same([shares(FULL, ("a", "b")), shows_shares(FULL, ("a", "b"), (0, 0))], [(0, 0), True])
        self.same([spare(BARE, "a"), shares(BARE, ("a", "b"))], [0, (0, 0)])

    def test_shown_values_of_all_kinds(self):
        book = Book("net 1 0 0\ngoal g\nstation a 0 0\nstation b 0 0\nlink a g 1 1\nlink b g 1 1")
        lot = ("a", "b")
        self.same(shows_shares(book, lot, (1, 1)), True)
        values = [[1, 1], (True, 1), (1, True), (1,), (1, 1, 0), (2, 0), (0, 2), (1, 0), (3, -1), ("1", 1), (1, None)]
        for value in [*values, 2, (2,), ((1, 1),), ((1,), 1), {"a": 1, "b": 1}, "ab", *any_values()]:
            with self.subTest(value=value):
                self.assertIs(shows_shares(book, lot, value), False)
        self.same([shows_shares(book, ("a",), (True,)), shows_shares(book, ("a",), (1,))], [False, True])
        self.same([shows_shares(BARE, ("a",), (False,)), shows_shares(BARE, ("a",), (0,))], [False, True])


class Refused(Case):

    def calls(self):
        return (excess, spare_of, shares, lambda book, names: shows_shares(book, names, (0,)))

    def test_bad_lots(self):
        for value in [*BAD_LOTS, *any_values()]:
            for book in (FULL, OVER):
                for call in self.calls():
                    with self.subTest(value=value):
                        with self.assertRaises(BadLot) as caught:
                            call(book, value)
                        self.assertIs(caught.exception.value, value)

    def test_no_station(self):
        for value in ["home", "c", "", ("a",), *any_values()]:
            for book in (FULL, OVER):
                with self.subTest(value=value):
                    with self.assertRaises(NoStation) as caught:
                        spare(book, value)
                    self.assertIs(caught.exception.value, value)

    def test_no_flow(self):
        for book in [OVER, *some_books(random.Random(13), 120)]:
            if not lacks(book, {}):
                names = tuple(sorted(station[0] for station in book.stations))
                for args in ((spare, names[0]), (spare_of, names), (shares, names), (shows_shares, names, None)):
                    with self.assertRaises(NoFlow) as caught:
                        args[0](book, *args[1:])
                    self.assertIs(caught.exception.__class__, NoFlow)
                    self.assertIn(caught.exception.value, all_lots(book))
                    self.assertGreater(told_excess(book, caught.exception.value), 0)

    def test_no_stations_are_a_lot_elsewhere_only(self):
        self.same([is_cut(OVER, ()), is_cut(FULL, ())], [False, False])
        for call in self.calls():
            self.refused(BadLot, (), call, FULL, ())


if __name__ == "__main__":
    unittest.main()
