"""What several tests need."""

import itertools
import unittest

from downhillnet.books import Book

TEXT = "net 4 0 1\ngoal home\nstation a 2 3\nstation b 1 0\nlink a b 2 2\nlink b home 1 3\nlink b a 1 0"


def nested(depth):
    """A value that is nested so deep, by all kinds in turn."""
    value = 1
    for number in range(depth):
        value = ([value], (value,), {"a": value})[number % 3]
    return value


def any_values():
    """Values of all kinds; none is a name, a lot, a weather, or a number that is asked for anywhere."""
    return [
        None, True, False, -1, 10 ** 39, "", "A", "a b", "a\tb", "ninechars", [], ["a"], ("A",), (None,), ([],), {},
        {"a": 1}, {"a": ()}, Book(TEXT), (Book(TEXT),), nested(60), (nested(59),), ((), ()),
    ]


def some_book(chance):
    """A book of one to four stations, with small numbers."""
    window, late = chance.randint(1, 4), chance.choice([0, 0, 1, 3])
    lines = [f"net {window} {chance.choice([0, 0, 1, 5])} {late}", "goal g"]
    names = chance.sample("abcd", chance.randint(1, 4))
    for name in names:
        lines.append(f"station {name} {chance.choice([0, 0, 1, 4])} {chance.choice([0, 1, 2, 3, 7])}")
    pairs = [(one, other) for one in names for other in [*names, "g"] if one != other]
    for one, other in chance.sample(pairs, chance.randint(0, min(6, len(pairs)))):
        lines.append(f"link {one} {other} {chance.choice([1, 1, 2, 3, 9])} {chance.randint(0, window)}")
    return Book("\n".join(lines))


def some_books(chance, many):
    """So many books, as they come by chance."""
    return [some_book(chance) for _ in range(many)]


def some_ticks(chance, book, many):
    """So many ticks of the book, which need not be a weather."""
    ticks = []
    for _ in range(many):
        puts = tuple(chance.choice([0, 0, 1, 2, 5, 12]) for _ in book.stations)
        opens = tuple(number for number in range(len(book.links)) if chance.random() < 0.6)
        ticks.append((puts, opens, tuple(chance.randint(0, book.late) for _ in book.links)))
    return tuple(ticks)


def some_weather(chance, book, many):
    """So many windows of a weather: often as much as may come comes, and links are open as often as they have to be."""
    ticks = []
    for _ in range(many):
        puts = [[0] * len(book) for _ in range(book.window)]
        for at, station in enumerate(book.stations):
            for _ in range(station[2] if chance.random() < 0.8 else chance.randint(0, station[2])):
                puts[chance.randrange(book.window)][at] += 1
        opens = []
        for link in book.links:
            times = link[3] if chance.random() < 0.7 else chance.randint(link[3], book.window)
            opens.append(chance.sample(range(book.window), times))
        for number in range(book.window):
            now = tuple(at for at, times in enumerate(opens) if number in times)
            ticks.append((tuple(puts[number]), now, tuple(chance.randint(0, book.late) for _ in book.links)))
    return tuple(ticks)


def all_lots(book):
    """All lots with at least one station."""
    names = sorted(station[0] for station in book.stations)
    return [lot for many in range(1, len(names) + 1) for lot in itertools.combinations(names, many)]


def told_tick(book, lay, tick):
    """What each link passes at a tick, word by word as section 6 tells, and the heaps behind it.

    What lay at each station is told by lay, for each tick so far, the last one being that which is done now.
    """
    puts, opens, ages = tick
    names = [station[0] for station in book.stations]
    now = len(lay) - 1
    has = {name: lay[now][name] + put for name, put in zip(names, puts)}
    level = {name: number for name, number, _ in book.stations}
    passed = {name: 0 for name in names}
    came = {name: 0 for name in [*names, book.goal]}
    passes = []
    for number, (u, v, room, _) in enumerate(book.links):
        heard = 0 if v == book.goal else level[v] + lay[max(0, now - ages[number])][v]
        many = 0
        if number in opens and has[u] + level[u] - heard > book.margin:
            many = min(room, has[u] - passed[u])
        passes.append(many)
        passed[u] += many
        came[v] += many
    return tuple(passes), {name: has[name] - passed[name] + came[name] for name in names}


def told_run(book, heaps, ticks):
    """The heaps at the beginning of each tick and of the next one, and what passes, of a run from these heaps."""
    names = [station[0] for station in book.stations]
    lay = [dict(zip(names, heaps))]
    rows = []
    for tick in ticks:
        passes, behind = told_tick(book, lay, tick)
        lay.append(behind)
        rows.append(passes)
    return tuple(tuple(row[name] for name in names) for row in lay), tuple(rows)


class Case(unittest.TestCase):
    """A test case that can ask for an error with a value."""

    def refused(self, error, value, call, *args, **more):
        """The call raises just this error, with a value that is the same one, or equal and of the same kind."""
        with self.assertRaises(error) as caught:
            call(*args, **more)
        self.assertIs(caught.exception.__class__, error)
        self.same(caught.exception.value, value)

    def same(self, one, other):
        """Both are equal, and of the same kind throughout (True is not 1)."""
        self.assertEqual(one, other)
        self.assertEqual(kind(one), kind(other))


def kind(value):
    """The classes of a value and of its parts."""
    if isinstance(value, (tuple, list)):
        return (value.__class__, [kind(part) for part in value])
    if isinstance(value, dict):
        return (dict, [(kind(key), kind(part)) for key, part in value.items()])
    return value.__class__
