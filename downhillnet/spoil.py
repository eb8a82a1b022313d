"""What no moves can prevent (section 9 of the document)."""

from downhillnet.books import MOST_ROOM, check_lot, links_out
from downhillnet.errors import BadCut, BadMoves
from downhillnet.flows import is_cut
from downhillnet.runs import ends_of, heaps_behind
from downhillnet.values import is_row
from downhillnet.weather import check_ticks, first_bad, rough


def can_pass(book, ends, heaps, tick, passes):
    """Whether any value tells what the links can pass at a tick, with these heaps at its beginning."""
    puts, opens, _ = tick
    if not is_row(passes, len(ends), 0, MOST_ROOM):
        return False
    left = [heap + put for heap, put in zip(heaps, puts)]
    for number, many in enumerate(passes):
        if many > 0 and (number not in opens or many > book.links[number][2]):
            return False
        left[ends[number][0]] -= many
    return min(left) >= 0


def moved(book, ticks, moves):
    """The heaps behind each tick, if packets are moved so."""
    check_ticks(book, ticks)
    if not isinstance(moves, tuple) or len(moves) != len(ticks):
        raise BadMoves(None)
    ends = ends_of(book)
    heaps = (0,) * len(book)
    rows = []
    for number, (tick, passes) in enumerate(zip(ticks, moves)):
        if not can_pass(book, ends, heaps, tick, passes):
            raise BadMoves(number)
        heaps = heaps_behind(ends, heaps, tick[0], passes)
        rows.append(heaps)
    return tuple(rows)


def is_moves(book, ticks, value):
    """Whether any value is moves for these ticks."""
    try:
        moved(book, ticks, value)
    except BadMoves:
        return False
    return True


def check_cut(book, cut):
    """Raise BadCut unless cut is a cut of the book."""
    if not is_cut(book, cut):
        raise BadCut(cut)


def spoil(book, cut):
    """A window in which all that may comes to the cut, and links out of it are open as seldom as may be."""
    check_cut(book, cut)
    return rough(book)


def shows_spoil(book, cut, value):
    """Whether any value is what spoil may return."""
    check_cut(book, cut)
    if not isinstance(value, tuple) or len(value) != book.window or first_bad(book, value) is not None:
        return False
    for number, (name, _, put) in enumerate(book.stations):
        if name in cut and sum([puts[number] for puts, _, _ in value]) != put:
            return False
    return all([times_open(value, number) == book.links[number][3] for number in links_out(book, cut)])


def times_open(ticks, number):
    """At how many of these ticks a link is open."""
    return sum([opens.count(number) for _, opens, _ in ticks])


def must_lie(book, ticks, names):
    """How many packets lie in a lot behind these ticks at least, whatever is moved."""
    check_ticks(book, ticks)
    check_lot(book, names)
    inside = [number for number, station in enumerate(book.stations) if station[0] in names]
    come = sum([puts[number] for puts, _, _ in ticks for number in inside])
    gone = sum([book.links[number][2] * times_open(ticks, number) for number in links_out(book, names)])
    return max(come - gone, 0)
