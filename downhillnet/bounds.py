"""Bounds for heaps that hold in all weathers (section 8 of the document)."""

from downhillnet.errors import BadNumber
from downhillnet.values import is_between


def lot_bound(book, many):
    """How much so many stations hold together at the beginning of a window at most, if the book has a flow."""
    if not is_between(many, 0, len(book)):
        raise BadNumber(many)
    rooms = sum([room for _, _, room, _ in book.links])
    puts = sum([put for _, _, put in book.stations])
    level = max([level for _, level, _ in book.stations])
    moved = book.window * rooms + puts
    gap = book.margin + 4 * moved + book.late * (rooms + puts) + level + 1
    steps = [book.margin + 2 * moved + rooms + 1 + (len(book) - k) * gap for k in range(1, many + 1)]
    return sum(steps)


def heap_bound(book):
    """How much a station holds at the beginning of a window at most, if the book has a flow."""
    return lot_bound(book, 1)
