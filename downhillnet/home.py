"""All packets home: levels by which nothing stays lying (section 10 of the document)."""

from downhillnet.books import MOST_LEVEL, Book, book_text, changed
from downhillnet.errors import BadHeaps, BadLevels, NotHoming, NoWay
from downhillnet.runs import ends_of, heaps_of, limit_of
from downhillnet.values import is_integer, is_row


def ways(book):
    """The least number of links with which each station leads to the goal; None where none lead there."""
    found = {book.goal: 0}
    for way in range(1, len(book) + 1):
        nearer = list(found)
        for whence, whither, _, times in book.links:
            if times > 0 and whither in nearer and whence not in found:
                found[whence] = way
    return tuple([found.get(name) for name, _, _ in book.stations])


def home_levels(book):
    """The levels by which each station of a way is more than the margin above the next one."""
    found = ways(book)
    for (name, _, _), way in zip(book.stations, found):
        if way is None:
            raise NoWay(name)
    return tuple([(book.margin + 1) * way for way in found])


def with_levels(book, levels):
    """The book with these levels, and else as before."""
    if not is_row(levels, len(book), 0, MOST_LEVEL):
        raise BadLevels(levels)
    stations = [(name, level, put) for (name, _, put), level in zip(book.stations, levels)]
    return changed(book, tuple(stations), book.links)


def with_margin(book, margin):
    """The book with this margin, and else as before; BadNumber if it can have none like that."""
    return Book(book_text(book.window, margin, book.late, book.goal, book.stations, book.links))


def home_margin(book):
    """The least margin with which nothing that is heard too late lets packets go uphill."""
    return (book.late + 1) * sum([room for _, _, room, _ in book.links])


def is_homing(book):
    """Whether each station has a way, levels are those of the ways, and the margin is great enough."""
    if None in ways(book) or book.margin < home_margin(book):
        return False
    return home_levels(book) == tuple([level for _, level, _ in book.stations])


def homing(book):
    """The book with a margin that is great enough, and the levels for it."""
    wide = with_margin(book, max(book.margin, home_margin(book)))
    return with_levels(wide, home_levels(wide))


def check_heaps(book, heaps):
    """Raise BadHeaps unless heaps tell for each station how many packets lie there, however many."""
    if not isinstance(heaps, tuple) or len(heaps) != len(book):
        raise BadHeaps(heaps)
    if not all([is_integer(heap) and heap >= 0 for heap in heaps]):
        raise BadHeaps(heaps)


def potential(book, heaps):
    """What falls, in a book that is homing, with all that is passed."""
    check_heaps(book, heaps)
    return sum([heap * (heap + 2 * level) for heap, (_, level, _) in zip(heaps, book.stations)])


def home_ticks(book, heaps):
    """Within how many ticks all is home, in all weathers, once nothing more is put in."""
    if not is_homing(book):
        raise NotHoming(None)
    check_heaps(book, heaps)
    many = sum(heaps)
    if many == 0:
        return 0
    level = max([level for _, level, _ in book.stations])
    falls = many * (many + 2 * level) // 2 + 1
    return book.late + falls * (book.late + 2 * book.window)


def home_at(book, ticks):
    """Ahead of which tick all is home first, and nothing more is put in; None if that does not come."""
    heaps = heaps_of(book, ticks)
    at = len(ticks)
    if sum(heaps[at]) > 0:
        return None
    # Behind a tick ahead of which all is home, and at which nothing is put in, all is still home.
    while at > 0 and sum(heaps[at - 1]) == 0 and sum(ticks[at - 1][0]) == 0:
        at -= 1
    return at


def least_passing(book, heaps):
    """The links that would pass something if they were open, each alone, and these heaps had stood for long."""
    check_heaps(book, heaps)
    passing = []
    for number, pair in enumerate(ends_of(book)):
        has = heaps[pair[0]]
        if has > 0 and has > limit_of(book, pair, heaps):
            passing.append(number)
    return tuple(passing)
