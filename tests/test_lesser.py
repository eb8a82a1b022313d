import random
import unittest

from downhillnet.books import Book
from downhillnet.bounds import lot_bound
from downhillnet.errors import BadRule, BadTicks
from downhillnet.flows import has_flow
from downhillnet.lesser import above_at, bad_case, is_case, played_by
from downhillnet.runs import heaps_of
from downhillnet.weather import calm, first_bad, rough
from tests.tools import TEXT, Case, any_values, some_books, some_weather

RULES = ("whole", "always", "deaf", "last", "once", "half", "sleepy")
LESSER = RULES[1:]
SMALL = "net 1 0 0\ngoal g\nstation a 0 1\nlink a g 1 1"
TICK = ((1,), (0,), (0,))


def told_by(rule, book, ticks):
    """The heaps behind each tick by a rule, word by word as the sections 6 and 14 tell."""
    names = [station[0] for station in book.stations]
    level = {name: number for name, number, _ in book.stations}
    lay = [{name: 0 for name in names}]
    for t, (puts, opens, ages) in enumerate(ticks):
        has = {name: lay[t][name] + put for name, put in zip(names, puts)}
        left = dict(has)
        come = {name: 0 for name in [*names, book.goal]}
        counted = list(opens)
        if rule == "last":
            counted = [at for at in opens if all(
                book.links[other][0] != book.links[at][0] for other in opens if other > at)]
        served = set()
        for at in counted:
            u, v, room, _ = book.links[at]
            heap = 0 if rule == "deaf" or v == book.goal else lay[max(0, t - ages[at])][v]
            heard = 0 if v == book.goal else level[v] + heap
            would = rule == "always" or has[u] + level[u] - heard > book.margin
            if not would or (rule == "sleepy" and t % 2 == 1) or (rule == "once" and u in served):
                continue
            many = min(room // 2 if rule == "half" else room, left[u])
            if many > 0:
                served.add(u)
            left[u] -= many
            come[v] += many
        lay.append({name: left[name] + come[name] for name in names})
    return tuple(tuple(row[name] for name in names) for row in lay[1:])


class Played(Case):

    def test_beside_a_plain_going(self):
        chance = random.Random(1)
        other = dict.fromkeys(LESSER, 0)
        for book in some_books(chance, 150):
            ticks = some_weather(chance, book, 4)[:chance.randint(3, 16)]
            for rule in RULES:
                told = played_by(rule, book, ticks)
                self.same(told, told_by(rule, book, ticks))
                if rule != "whole":
                    other[rule] += told != heaps_of(book, ticks)[1:]
        self.assertGreater(min(other.values()), 5)

    def test_the_whole_rule_is_that_of_runs(self):
        chance = random.Random(2)
        for book in some_books(chance, 80):
            ticks = some_weather(chance, book, 3)
            self.same(played_by("whole", book, ticks), heaps_of(book, ticks)[1:])

    def played(self, text, ticks, rules=RULES):
        return [played_by(rule, Book(text), ticks) for rule in rules]

    def test_no_ticks(self):
        self.same(self.played(SMALL, ()), [()] * 7)

    def test_always_and_deaf(self):
        text = "net 1 0 0\ngoal g\nstation a 0 2\nstation b 0 0\nlink a b 1 1"
        ticks = (((2, 0), (0,), (0,)),) * 3
        whole = ((1, 1), (2, 2), (3, 3))
        self.same(self.played(text, ticks, ("whole", "always", "deaf")), [whole] * 3)
        # Uphill by level, and behind a margin: whoever is deaf hears levels.
        high = text.replace("station b 0 0", "station b 3 0")
        ticks = (*ticks[:2], ((1, 0), (0,), (0,)))
        self.same(self.played(high, ticks, ("whole", "always", "deaf")),
                  [((2, 0), (3, 1), (4, 1)), ((1, 1), (2, 2), (2, 3)), ((2, 0), (3, 1), (3, 2))])
        wide = text.replace("net 1 0", "net 1 2")
        ticks = (*ticks[:2], ((0, 0), (0,), (0,)))
        self.same(self.played(wide, ticks, ("whole", "always", "deaf")),
                  [((2, 0), (3, 1), (3, 1)), ((1, 1), (2, 2), (1, 3)), ((2, 0), (3, 1), (2, 2))])

    def test_last(self):
        text = "net 1 0 0\ngoal g\nstation a 0 3\nstation b 0 0\nlink a g 1 0\nlink b g 1 0\nlink a b 1 0"
        ticks = (((3, 0), (0, 1), (0, 0, 0)), ((0, 0), (0, 1, 2), (0, 0, 0)), ((0, 0), (0, 2), (0, 0, 0)))
        self.same(self.played(text, ticks, ("whole", "last")), [((2, 0), (0, 1), (0, 1)), ((2, 0), (1, 1), (1, 1))])

    def test_last_counts_what_does_not_pass(self):
        text = "net 1 0 0\ngoal g\nstation a 0 1\nstation b 9 0\nlink a g 1 1\nlink a b 1 1"
        ticks = (((1, 0), (0, 1), (0, 0)),) * 3
        self.same(self.played(text, ticks, ("whole", "last", "once")),
                  [((0, 0),) * 3, ((1, 0), (2, 0), (3, 0)), ((0, 0),) * 3])

    def test_once(self):
        text = "net 1 0 0\ngoal g\nstation a 0 3\nstation b 9 0\nlink a b 1 1\nlink a g 1 1"
        ticks = (((3, 0), (0, 1), (0, 0)),)
        # The first one would pass nothing: so the other one does.
        self.same(self.played(text, ticks, ("whole", "once")), [((2, 0),), ((2, 0),)])
        low = text.replace("station b 9 0", "station b 0 0")
        self.same(self.played(low, ticks, ("whole", "once")), [((1, 1),), ((2, 1),)])
        two = low.replace("station b 0 0", "station b 0 2") + "\nlink b g 1 1\nlink b a 1 1"
        self.same(self.played(two, (((0, 2), (0, 1, 2, 3), (0,) * 4),), ("whole", "once")), [((1, 0),), ((0, 1),)])

    def test_half(self):
        for room, told in ((1, ((4,), (4,))), (2, ((3,), (2,))), (3, ((3,), (2,))), (4, ((2,), (0,)))):
            text = f"net 2 0 0\ngoal g\nstation a 0 4\nlink a g {room} 1"
            ticks = (((4,), (0,), (0,)), ((0,), (0,), (0,)))
            self.same(self.played(text, ticks, ("half",)), [told])

    def test_sleepy(self):
        ticks = (TICK, TICK, ((0,), (0,), (0,)), ((0,), (0,), (0,)), ((0,), (0,), (0,)))
        self.same(self.played(SMALL, ticks, ("sleepy",)), [((0,), (1,), (0,), (0,), (0,))])
        self.same(self.played(SMALL, (TICK,) * 4, ("sleepy",)), [((0,), (1,), (1,), (2,))])

    def test_late_hearing(self):
        text = "net 1 0 2\ngoal g\nstation a 0 2\nstation b 0 0\nlink a b 9 1"
        ticks = tuple(((2, 0), (0,), (age,)) for age in (0, 0, 1, 2, 0))
        whole = heaps_of(Book(text), ticks)[1:]
        self.same(self.played(text, ticks, ("whole", "deaf")), [whole, ((0, 2), (0, 4), (0, 6), (0, 8), (0, 10))])
        self.assertNotEqual(whole, ((0, 2), (0, 4), (0, 6), (0, 8), (0, 10)))


class Above(Case):

    def test_beside_the_heaps(self):
        chance = random.Random(3)
        seen = set()
        for book in some_books(chance, 120):
            ticks = (rough(book) * 90)[:chance.randint(60, 90) * book.window - chance.randint(0, 2)]
            for rule in RULES:
                told = None
                heaps = told_by(rule, book, ticks)
                for window in range(len(ticks) // book.window - 1, -1, -1):
                    if sum(heaps[window * book.window + book.window - 1]) > lot_bound(book, len(book)):
                        told = window
                self.same(above_at(rule, book, ticks), told)
                seen.add((rule == "whole" and has_flow(book), told is None))
        self.assertEqual(seen, {(True, True), (False, True), (False, False)})

    def test_in_whole_windows_alone(self):
        book = Book("net 3 0 0\ngoal g\nstation a 0 20\nlink a g 7 3")
        ticks = (((20,), (0,), (0,)), ((0,), (0,), (0,)), ((0,), (0,), (0,))) * 20
        heaps = [row[0] for row in played_by("sleepy", book, ticks)]
        first = [heap > lot_bound(book, 1) for heap in heaps].index(True)
        window = above_at("sleepy", book, ticks)
        # Amid a window it is above the bound already.
        self.assertLess(first, 3 * window + 2)
        for many, told in ((first + 1, None), (3 * window, None), (3 * window + 2, None), (3 * window + 3, window)):
            self.same(above_at("sleepy", book, ticks[:many]), told)

    def test_the_last_tick_of_a_window_counts(self):
        # Within a window there is more than is told, at its end not any more.
        book = Book("net 2 0 0\ngoal g\nstation a 0 1\nlink a g 1 1")
        bound = lot_bound(book, 1)
        self.same(bound, 8)
        over = Book("net 2 0 0\ngoal g\nstation a 0 9\nlink a g 1 1")
        ticks = (((9,), (0,), (0,)), ((0,), (0,), (0,))) * 6
        heaps = [sum(row) for row in played_by("whole", over, ticks)]
        told = [heap > lot_bound(over, 1) for heap in heaps[1::2]].index(True)
        self.same(above_at("whole", over, ticks), told)
        self.same([above_at("whole", over, ticks[:2 * told + 2]), above_at("whole", over, ticks[:2 * told + 1])], [told, None])

    def test_not_reached_but_equal(self):
        # With so many packets as the bound tells, it is not above it.
        self.same(lot_bound(Book(SMALL), 1), 6)
        self.same([above_at("half", Book(SMALL), (TICK,) * many) for many in (5, 6, 7, 20)], [None, None, 6, 6])

    def test_with_the_whole_rule_never(self):
        chance = random.Random(4)
        for book in some_books(chance, 200):
            if has_flow(book):
                for ticks in (rough(book) * 30, some_weather(chance, book, 30), calm(book) + rough(book) * 9):
                    self.assertIsNone(above_at("whole", book, ticks))


class Cases(Case):

    def test_bad_cases(self):
        self.assertIsNone(bad_case("whole"))
        for rule in LESSER:
            text, ticks = value = bad_case(rule)
            book = Book(text)
            self.same([value.__class__, has_flow(book), first_bad(book, ticks)], [tuple, True, None])
            self.assertLessEqual(len(ticks), 1000)
            self.assertIsNotNone(above_at(rule, book, ticks))
            self.assertIsNone(above_at("whole", book, ticks))
            self.assertIs(is_case(rule, value), True)
            self.assertIs(is_case("whole", value), False)
            for other in RULES:
                self.assertIs(is_case(other, value), above_at(other, book, ticks) is not None)

    def test_cut_to_fewer_ticks(self):
        for rule in LESSER:
            text, ticks = bad_case(rule)
            book = Book(text)
            need = (above_at(rule, book, ticks) + 1) * book.window
            self.assertIs(is_case(rule, (text, ticks[:need])), True)
            for many in (need - 1, need // 2, 0):
                self.assertIs(is_case(rule, (text, ticks[:many])), False)

    def test_at_most_a_thousand_ticks(self):
        shown = [is_case("half", (SMALL, (TICK,) * many)) for many in (7, 1000, 1001, 10001)]
        self.same(shown, [True, True, False, False])

    def test_without_a_flow(self):
        text = SMALL.replace("a 0 1", "a 0 2")
        ticks = (((2,), (0,), (0,)),) * 100
        self.assertIsNotNone(above_at("half", Book(text), ticks))
        for rule in RULES:
            self.assertIs(is_case(rule, (text, ticks)), False)

    def test_ticks_that_keep_the_book_no_longer(self):
        ticks = (TICK,) * 20
        for wrong in (((2,), (0,), (0,)), ((1,), (), (0,)), ((1,), (0,), (1,)), None, [TICK]):
            for number in (0, 9, 19):
                self.assertIs(is_case("half", (SMALL, (*ticks[:number], wrong, *ticks[number + 1:]))), False)

    def test_values_of_all_kinds(self):
        ticks = (TICK,) * 7
        self.assertIs(is_case("half", (SMALL, ticks)), True)
        for value in [
            [SMALL, ticks], (SMALL,), (SMALL, ticks, ticks), (ticks, SMALL), (SMALL, list(ticks)), (Book(SMALL), ticks),
            (SMALL + "\n", ticks), ("", ticks), (None, ticks), (SMALL, None), (SMALL, ()), ([SMALL], ticks), SMALL, ticks,
            (SMALL, ((True,), (0,), (0,))), *any_values(),
        ]:
            for rule in RULES:
                self.assertIs(is_case(rule, value), False)

    def test_bad_rules_ahead_of_bad_ticks(self):
        book = Book(TEXT)
        for value in ["", "Whole", "wholes", 0, True, None, ("half",), ["half"], {"half": 1}, book, *any_values()]:
            for call, args in ((played_by, (book, None)), (above_at, (book, None)), (bad_case, ()), (is_case, (None,))):
                with self.assertRaises(BadRule) as caught:
                    call(value, *args)
                self.assertIs(caught.exception.value, value)
        idle = ((0, 0), (0, 1, 2), (0, 0, 0))
        for rule in RULES:
            for call in (played_by, above_at):
                self.refused(BadTicks, None, call, rule, book, [idle])
                self.refused(BadTicks, 1, call, rule, book, (idle, None))
                self.refused(BadTicks, 1, call, rule, book, (idle, ((4, 0), (), (0, 0, 0))))


if __name__ == "__main__":
    unittest.main()
