"""The examples in code of the document, to the letter."""

import doctest
import pathlib
import unittest

SECTION_4 = r"""
>>> from downhillnet.books import Book, book_text, is_lot, link_number, links_in, links_out, puts_of, rooms_of, station_number
>>> text = 'net 4 0 1\ngoal home\nstation a 2 3\nstation b 1 0\nlink a b 2 2\nlink b home 1 3\nlink b a 1 0'
>>> book = Book(text)
>>> [book.window, book.margin, book.late, book.goal, book.stations, len(book)]
[4, 0, 1, 'home', (('a', 2, 3), ('b', 1, 0)), 2]
>>> [book.links, book_text(4, 0, 1, 'home', book.stations, book.links) == text, book == Book(text)]
[(('a', 'b', 2, 2), ('b', 'home', 1, 3), ('b', 'a', 1, 0)), True, True]
>>> [station_number(book, 'b'), link_number(book, 'b', 'home'), is_lot(book, ('a', 'b')), is_lot(book, ('b', 'a')), is_lot(book, ('home',))]
[1, 1, True, False, False]
>>> [links_out(book, ('a',)), links_in(book, ('a',)), links_out(book, ('a', 'b')), rooms_of(book, ('a',)), puts_of(book, ('a', 'b'))]
[(0,), (2,), (1,), 4, 3]
"""

SECTION_5 = r"""
>>> from downhillnet.books import Book
>>> from downhillnet.weather import calm, finished, first_bad, is_tick, may_come, rough, windows_in, windows_many
>>> book = Book('net 2 0 1\ngoal g\nstation a 0 3\nlink a g 2 1')
>>> [is_tick(book, ((1,), (0,), (1,))), is_tick(book, ((1,), (0, 0), (1,))), is_tick(book, ((1,), (), (2,))), is_tick(book, None)]
[True, False, False, False]
>>> one = ((1,), (), (0,))
>>> [first_bad(book, (one, ((2,), (0,), (0,)))), first_bad(book, (one, ((3,), (0,), (0,)))), first_bad(book, (one, one))]
[None, 1, 1]
>>> [may_come(book, ()), may_come(book, (one,)), windows_in(book, (one,)), finished(book, (one,))]
[((3,), ()), ((2,), (0,)), (0, 1), (((1,), (), (0,)), ((0,), (0,), (0,)))]
>>> [calm(book), rough(book), windows_many(book)]
[(((0,), (0,), (0,)), ((0,), (), (0,))), (((3,), (), (1,)), ((0,), (0,), (1,))), 120]
"""

SECTION_6 = r"""
>>> from downhillnet.books import Book
>>> from downhillnet.runs import heaps_of, most_in, passes_of, played, Run, run_from
>>> book = Book('net 2 0 1\ngoal g\nstation a 0 2\nstation b 0 1\nlink a b 2 1\nlink b g 2 2\nlink a g 1 1')
>>> ticks = (((2, 0), (0, 1, 2), (0, 0, 0)), ((0, 1), (1,), (0, 0, 0)))
>>> [played(book, ticks), heaps_of(book, ticks), passes_of(book, ticks), most_in(book, ticks, ('a', 'b'))]
[((0, 1), 2), ((0, 0), (0, 2), (0, 1)), ((2, 0, 0), (0, 2, 0)), 2]
>>> run = Run(book)
>>> [run.go_on(tick) for tick in ticks]
[(2, 0, 0), (0, 2, 0)]
>>> other = run.copy()
>>> [run.go_on(((2, 0), (0,), (1, 0, 0))), other.go_on(((2, 0), (0,), (0, 0, 0)))]
[(0, 0, 0), (2, 0, 0)]
>>> [run.heaps, other.heaps, run.home, other.passed, run.tick, run.window]
[(2, 1), (0, 3), 2, (4, 2, 0), 3, 1]
>>> later = run_from(book, (3, 3))
>>> [later.go_on(((1, 0), (0, 1), (1, 0, 0))), later.heaps, later.home]
[(2, 2, 0), (2, 3), 2]
"""

SECTION_7 = r"""
>>> from downhillnet.books import Book
>>> from downhillnet.flows import excess, greatest_worst, has_flow, is_cut, is_flow, judged, least_worst, shows_judged, spare, spare_of, worst_excess
>>> text = 'net 4 3 1\ngoal home\nstation a 0 3\nstation b 0 2\nlink a b 2 3\nlink a home 1 1\nlink b home 3 2'
>>> book = Book(text)
>>> [is_flow(book, (2, 1, 4)), is_flow(book, (3, 0, 5)), is_flow(book, (3, 1, 5)), has_flow(book), is_cut(book, ('a', 'b'))]
[True, True, False, True, False]
>>> [excess(book, ('a',)), excess(book, ('b',)), excess(book, ('a', 'b')), worst_excess(book), least_worst(book)]
[-4, -4, -2, -2, None]
>>> [spare(book, 'a'), spare(book, 'b'), spare_of(book, ('a', 'b'))]
[2, 2, 2]
>>> full = Book(text.replace('station b 0 2', 'station b 0 5'))
>>> [judged(full), shows_judged(full, ('cut', ('b',))), worst_excess(full), least_worst(full), greatest_worst(full)]
[('cut', ('a', 'b')), False, 1, ('a', 'b'), ('a', 'b')]
"""

SECTION_8 = r"""
>>> from downhillnet.books import Book
>>> from downhillnet.bounds import heap_bound, lot_bound
>>> from downhillnet.worst import shows_worst_weather, standings_many, worst_lot, worst_weather
>>> book = Book('net 2 0 0\ngoal g\nstation a 0 1\nlink a g 1 1')
>>> [heap_bound(book), standings_many(book, 100), worst_lot(book, ('a',), 100), len(worst_weather(book, ('a',), 100))]
[8, 9, 2, 3]
>>> late = (((0,), (0,), (0,)), ((1,), (), (0,)), ((1,), (), (0,)))
>>> [shows_worst_weather(book, ('a',), 9, late), shows_worst_weather(book, ('a',), 9, late[1:])]
[True, False]
>>> two = Book('net 1 0 0\ngoal g\nstation a 0 1\nstation b 0 0\nlink a b 1 1\nlink b g 1 1')
>>> [[lot_bound(two, many) for many in (0, 1, 2)], [worst_lot(two, names, 100) for names in (('a',), ('b',), ('a', 'b'))]]
[[0, 22, 31], [1, 1, 2]]
"""

SECTION_9 = r"""
>>> from downhillnet.best import home_lots, most_home, shows_home_lots, shows_most_home
>>> from downhillnet.books import Book
>>> from downhillnet.spoil import is_moves, moved, must_lie, shows_spoil, spoil
>>> book = Book('net 2 0 0\ngoal home\nstation a 0 3\nstation b 0 0\nlink a b 1 2\nlink b home 1 1')
>>> ticks = (((3, 0), (0, 1), (0, 0)), ((0, 0), (0,), (0, 0)))
>>> [is_moves(book, ticks, ((1, 0), (1, 0))), is_moves(book, ticks, ((1, 1), (1, 0))), moved(book, ticks, ((1, 0), (1, 0)))]
[True, False, ((2, 1), (1, 2))]
>>> [shows_spoil(book, ('a', 'b'), ticks), shows_spoil(book, ('a', 'b'), spoil(book, ('a', 'b'))), must_lie(book, ticks, ('a', 'b'))]
[True, True, 2]
>>> [most_home(book, ticks)[0], shows_home_lots(book, ticks, (('a',), ('a', 'b'), ('a', 'b')))]
[0, True]
>>> late = (ticks[1], (ticks[0][0], (0, 1), (0, 0)), ((0, 0), (0, 1), (0, 0)), ((0, 0), (0, 1), (0, 0)))
>>> [most_home(book, late)[0], shows_most_home(book, late, (2, ((0, 0), (1, 0), (1, 1), (0, 1))))]
[2, True]
"""

SECTION_10 = r"""
>>> from downhillnet.books import Book
>>> from downhillnet.home import home_at, home_levels, home_margin, home_ticks, homing, is_homing, least_passing, potential, ways
>>> book = Book('net 2 0 0\ngoal z\nstation a 0 1\nstation b 0 0\nlink a b 2 1\nlink b z 1 1')
>>> [ways(book), home_levels(book), home_margin(book), is_homing(book)]
[(2, 1), (2, 1), 3, False]
>>> home = homing(book)
>>> [home.margin, home.stations, is_homing(home), potential(home, (2, 1))]
[3, (('a', 8, 1), ('b', 4, 0)), True, 45]
>>> [home_ticks(home, (1, 0)), home_ticks(home, (0, 0)), least_passing(home, (1, 0)), least_passing(home, (1, 3))]
[36, 0, (0,), (1,)]
>>> one = ((1, 0), (0, 1), (0, 0))
>>> none = ((0, 0), (0, 1), (0, 0))
>>> [home_at(home, (one, none, none)), home_at(home, (one,)), home_at(home, ())]
[2, None, 0]
"""

SECTION_11 = r"""
>>> from downhillnet.wires import calm_round, can_be, end_of, events_now, least_wrong, played_wire, shows_end, way_to, Wire
>>> wire = Wire((7, 7, 9), 2)
>>> [wire.go_on(event) for event in (('say',), ('double', 'there', 0), ('hear',), ('hear',), ('heard',))]
[None, None, None, None, None]
>>> [wire.got, wire.known, wire.bits, wire.letters, wire.answers, wire.standing]
[(7,), 1, (1, 1), (), (0,), (1, 1, (), (0,))]
>>> [events_now(wire), calm_round(wire)]
[(('say',), ('heard',), ('lose', 'back', 0), ('double', 'back', 0)), (('heard',), ('say',), ('hear',), ('heard',))]
>>> played_wire((7, 7, 9), 2, (('say',), ('hear',), ('say',), ('hear',))).standing
(0, 1, (), (0, 0))
>>> [can_be((7, 7, 9), 2, value) for value in ((1, 1, ((0, 7), (1, 7)), ()), (1, 1, ((1, 7), (0, 7)), ()), (0, 2, (), ()), (1, 2, ((1, 7),), (0, 1)))]
[True, False, False, True]
>>> [len(end_of(wire)), shows_end(wire, (('lose', 'back', 0), ('say',), ('hear',), ('heard',), ('say',), ('hear',), ('heard',)))]
[7, True]
>>> played_wire((7, 7, 9), 2, way_to((7, 7, 9), 2, (1, 2, ((1, 7),), (0, 1)))).standing
(1, 2, ((1, 7),), (0, 1))
>>> [len(least_wrong((3, 5), 2, 'receiver')), least_wrong((3,), 2, 'sender')]
[5, None]
"""

SECTION_12 = r"""
>>> from downhillnet.books import Book
>>> from downhillnet.needs import least_open, least_window, needful, scale, shows_scale, worth
>>> book = Book('net 2 0 1\ngoal g\nstation a 0 2\nstation b 0 1\nlink a b 2 1\nlink b g 2 2\nlink a g 1 1')
>>> [[least_open(book, number) for number in range(3)], needful(book), scale(book)]
[[1, 1, 0], (0, 1), (3, 2, ('a',))]
>>> [worth(book, 0, 'a'), worth(book, 1, 'a'), worth(book, 2, 'a'), least_window(book)]
[1, None, 1, 1]
>>> [shows_scale(book, (3, 2, ('a',))), shows_scale(book, (3, 2, ('a', 'b'))), shows_scale(book, (6, 4, ('a',)))]
[True, False, False]
"""

SECTION_13 = r"""
>>> from downhillnet.books import Book
>>> from downhillnet.flows import has_flow, judged
>>> from downhillnet.nets import behind, part, parts_of, renamed, together, with_link, with_put, without_link
>>> one = Book('net 2 1 0\ngoal z\nstation a 0 2\nlink a z 1 2')
>>> other = Book('net 2 1 0\ngoal z\nstation b 3 1\nlink b z 1 1')
>>> both = together(one, other)
>>> [both.stations, both.links, parts_of(both), part(both, ('b',)) == other]
[(('a', 0, 2), ('b', 3, 1)), (('a', 'z', 1, 2), ('b', 'z', 1, 1)), (('a',), ('b',)), True]
>>> row = behind(renamed(other, 'z', 'a'), one)
>>> [row.stations, row.links, judged(row)]
[(('b', 3, 1), ('a', 0, 2)), (('b', 'a', 1, 1), ('a', 'z', 1, 2)), ('cut', ('a', 'b'))]
>>> [judged(with_put(row, 'a', 1)), has_flow(without_link(row, 1)), has_flow(with_link(row, ('b', 'z', 1, 1)))]
[('flow', (1, 2)), False, True]
"""

SECTION_14 = r"""
>>> from downhillnet.books import Book
>>> from downhillnet.lesser import above_at, bad_case, is_case, played_by
>>> text = 'net 1 0 0\ngoal g\nstation a 0 1\nlink a g 1 1'
>>> tick = ((1,), (0,), (0,))
>>> [played_by('whole', Book(text), (tick, tick)), played_by('half', Book(text), (tick, tick))]
[((0,), (0,)), ((1,), (2,))]
>>> [above_at('whole', Book(text), (tick,) * 20), above_at('half', Book(text), (tick,) * 20)]
[None, 6]
>>> [is_case('half', (text, (tick,) * 7)), is_case('half', (text, (tick,) * 6)), is_case('whole', (text, (tick,) * 7)), bad_case('whole')]
[True, False, False, None]
>>> [is_case(rule, bad_case(rule)) for rule in ('always', 'deaf', 'last', 'once', 'half', 'sleepy')]
[True, True, True, True, True, True]
"""

SECTION_15 = r"""
>>> from downhillnet.desk import Desk, desk_text, read_desk
>>> desk = Desk()
>>> text = 'net 2 0 0\ngoal home\nstation a 2 3\nlink a home 1 1'
>>> one = [desk.lead(('net', 'n', text)), desk.lead(('tick', 'n', ((3,), (0,), (0,)))), desk.lies('n'), desk.lead(('tick', 'n', ((0,), (), (0,))))]
>>> one
[None, None, (('a', 2),), None]
>>> two = [desk.lead(('come', 'n', 'b', 5, 0)), desk.lead(('link', 'n', 'b', 'a', 2, 2)), desk.note('wide'), desk.lead(('calm', 'n', 1)), desk.all_in('n')]
>>> two
[None, None, None, None, 1]
>>> [desk.book_of('n').stations, desk.book_of('n').links, desk.run_of('n').tick, desk.run_of('n').home, desk.names]
[(('a', 2, 3), ('b', 5, 0)), (('a', 'home', 1, 1), ('b', 'a', 2, 2)), 2, 1, ('n',)]
>>> three = [desk.back('wide'), desk.all_deeds()[1], desk.lies('n'), desk_text(desk).split('\n')[:3]]
>>> three
[None, (('calm', 'n', 1),), (('a', 2), ('b', 0)), ['stand 5', 'note wide 5', 'net n 4']]
>>> desk_text(desk).split('\n')[7:]
['tick n 3 0 0', 'tick n 0 - 0', 'come n b 5 0', 'link n b a 2 2', 'calm n 1']
>>> other = read_desk(desk_text(desk))
>>> [other.lies('n'), desk_text(other) == desk_text(desk), read_desk('stand 0').names]
[(('a', 2), ('b', 0)), True, ()]
"""


class Examples(unittest.TestCase):

    def as_told(self, text, many):
        """All of so many lines of the example return what stands behind them."""
        test = doctest.DocTestParser().get_doctest(text, {}, "example", None, 0)
        told = []
        result = doctest.DocTestRunner(verbose=False).run(test, out=told.append)
        self.assertEqual((result.failed, result.attempted), (0, many), "".join(told))

    def test_section_4(self):
        self.as_told(SECTION_4, 7)

    def test_section_5(self):
        self.as_told(SECTION_5, 8)

    def test_section_6(self):
        self.as_told(SECTION_6, 12)

    def test_section_7(self):
        self.as_told(SECTION_7, 9)

    def test_section_8(self):
        self.as_told(SECTION_8, 9)

    def test_section_9(self):
        self.as_told(SECTION_9, 10)

    def test_section_10(self):
        self.as_told(SECTION_10, 10)

    def test_section_11(self):
        self.as_told(SECTION_11, 10)

    def test_section_12(self):
        self.as_told(SECTION_12, 6)

    def test_section_13(self):
        self.as_told(SECTION_13, 10)

    def test_section_14(self):
        self.as_told(SECTION_14, 8)

    def test_section_15(self):
        self.as_told(SECTION_15, 13)

    def test_the_readme(self):
        text = (pathlib.Path(__file__).resolve().parent.parent / "README.md").read_text(encoding="utf-8")
        blocks = [block for block in text.split("```\n")[1::2] if block.startswith(">>> ")]
        self.assertEqual(len(blocks), 4)
        self.as_told("\n".join(blocks), sum(block.count(">>> ") for block in blocks))


if __name__ == "__main__":
    unittest.main()
