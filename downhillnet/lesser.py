"""Lesser rules, and how they fail (section 14 of the document)."""

from downhillnet.books import Book
from downhillnet.bounds import lot_bound
from downhillnet.errors import BadBook, BadRule
from downhillnet.flows import has_flow
from downhillnet.runs import ends_of, heaps_behind, limit_of, past_of
from downhillnet.weather import check_ticks, first_bad, rough

RULES = ("whole", "always", "deaf", "last", "once", "half", "sleepy")
MOST_IN_CASE = 1000
# Books with a flow, of which less comes home by the rule than is put in: at b it gets stuck, or it stays at a.
CASES = {
    "always": "net 1 0 0\ngoal g\nstation a 0 1\nstation b 0 0\nlink a b 1 1\nlink a g 1 1",
    "deaf": "net 1 0 0\ngoal g\nstation a 0 1\nstation b 0 0\nlink a b 1 1\nlink a g 1 1",
    "last": "net 1 0 0\ngoal g\nstation a 0 1\nstation b 0 0\nlink a g 1 1\nlink a b 1 1",
    "once": "net 1 0 0\ngoal g\nstation a 0 2\nstation b 0 0\nlink a g 1 1\nlink a b 1 1\nlink b g 1 1",
    "half": "net 1 0 0\ngoal g\nstation a 0 1\nlink a g 1 1",
    "sleepy": "net 1 0 0\ngoal g\nstation a 0 1\nlink a g 1 1",
}
# So many that even a book of these which grows by one packet in two ticks comes above its bound.
WINDOWS_IN_CASE = 100


def check_rule(rule):
    """Raise BadRule unless rule is one of the words."""
    if rule not in RULES:
        raise BadRule(rule)


def played_by(rule, book, ticks):
    """The heaps behind each tick, by this rule."""
    check_rule(rule)
    check_ticks(book, ticks)
    ends = ends_of(book)
    past = past_of(book, (0,) * len(book))
    rows = []
    for number, tick in enumerate(ticks):
        passes = passes_by(rule, book, ends, past, tick)
        if rule == "sleepy" and number % 2 == 1:
            passes = (0,) * len(ends)
        heaps = heaps_behind(ends, past[0], tick[0], passes)
        past = (heaps, *past[:book.late])
        rows.append(heaps)
    return tuple(rows)


def passes_by(rule, book, ends, past, tick):
    """What each link passes by this rule, at a tick at which it does not sleep."""
    puts, opens, ages = tick
    has = [heap + put for heap, put in zip(past[0], puts)]
    left = list(has)
    passes = [0] * len(ends)
    for number in opens_by(rule, ends, opens):
        whence = ends[number][0]
        heard = (0,) * len(book) if rule == "deaf" else past[ages[number]]
        downhill = rule == "always" or has[whence] > limit_of(book, ends[number], heard)
        first = left[whence] == has[whence]
        if downhill and (first or rule != "once"):
            room = book.links[number][2]
            passes[number] = min(room // 2 if rule == "half" else room, left[whence])
            left[whence] -= passes[number]
    return tuple(passes)


def opens_by(rule, ends, opens):
    """The numbers of the links that count as open by this rule."""
    if rule != "last":
        return opens
    # They ascend: so the greatest number of each station is that which stays.
    greatest = {ends[number][0]: number for number in opens}
    return sorted(greatest.values())


def above_at(rule, book, ticks):
    """The first whole window behind which more lies in the net than is told, by this rule; None if there is none."""
    rows = played_by(rule, book, ticks)
    bound = lot_bound(book, len(book))
    for window in range(len(rows) // book.window):
        if sum(rows[(window + 1) * book.window - 1]) > bound:
            return window
    return None


def bad_case(rule):
    """A case in which the promise is not kept by this rule; None if there is none."""
    check_rule(rule)
    if rule not in CASES:
        return None
    return CASES[rule], rough(Book(CASES[rule])) * WINDOWS_IN_CASE


def is_case(rule, value):
    """Whether any value is a case for this rule."""
    check_rule(rule)
    if not isinstance(value, tuple) or len(value) != 2:
        return False
    text, ticks = value
    book = book_of_any(text)
    if book is None or not has_flow(book) or not isinstance(ticks, tuple) or len(ticks) > MOST_IN_CASE:
        return False
    return first_bad(book, ticks) is None and above_at(rule, book, ticks) is not None


def book_of_any(text):
    """The book with this text; None if it is any value that is none."""
    try:
        return Book(text)
    except BadBook:
        return None
