"""Weather: what comes from outside, tick by tick (section 5 of the document)."""

from math import comb

from downhillnet.errors import BadTicks, TooMany
from downhillnet.values import is_ascending, is_between, is_row

MOST_TICKS = 10000
MOST_PUT_IN = 10 ** 6
MOST_WINDOWS = 10 ** 18


def is_tick(book, value):
    """Whether any value is a tick for the book."""
    if not isinstance(value, tuple) or len(value) != 3:
        return False
    puts, opens, ages = value
    many = len(book.links)
    return is_row(puts, len(book), 0, MOST_PUT_IN) and is_opens(opens, many) and is_row(ages, many, 0, book.late)


def is_opens(value, many):
    """Whether any value is an ascending tuple of numbers of so many links."""
    if not isinstance(value, tuple):
        return False
    return all([is_between(number, 0, many - 1) for number in value]) and is_ascending(value)


def first_bad(book, value):
    """The number of the first part that is no tick, or cannot come behind those ahead; None if there is none."""
    if not isinstance(value, tuple) or len(value) > MOST_TICKS:
        raise BadTicks(None)
    for number, tick in enumerate(value):
        if not is_tick(book, tick):
            return number
        if number % book.window == 0:
            left = left_at_first(book)
        left = left_behind(left, tick)
        if min([*left[0], *left[1]]) < 0:
            return number
    return None


def check_ticks(book, ticks):
    """Raise BadTicks unless ticks are a weather."""
    number = first_bad(book, ticks)
    if number is not None:
        raise BadTicks(number)


def left_at_first(book):
    """What is left ahead of a window: the packets for each station, and the ticks at which each link may be shut.

    A link that may be shut at no tick any more has to be open, wherever in the window that is.
    """
    packets = [put for _, _, put in book.stations]
    shuts = [book.window - times for _, _, _, times in book.links]
    return packets, shuts


def left_behind(left, tick):
    """What is left behind a tick; numbers below 0 tell what the tick took too much."""
    puts, opens, _ = tick
    packets = [many - put for many, put in zip(left[0], puts)]
    shuts = [many - 1 for many in left[1]]
    for number in opens:
        shuts[number] += 1
    return packets, shuts


def left_now(book, ticks):
    """What is left for the next tick behind these ones, which are a weather."""
    left = left_at_first(book)
    for tick in ticks[len(ticks) - len(ticks) % book.window:]:
        left = left_behind(left, tick)
    return left


def must_open(left):
    """The numbers of the links that have to be open at the next tick."""
    return tuple([number for number, many in enumerate(left[1]) if many == 0])


def may_come(book, ticks):
    """The most packets that may be put in at each station at the next tick, and the links that have to be open."""
    check_ticks(book, ticks)
    left = left_now(book, ticks)
    return tuple(left[0]), must_open(left)


def windows_in(book, ticks):
    """How many whole windows there are, and how many ticks of an unfinished one."""
    check_ticks(book, ticks)
    return len(ticks) // book.window, len(ticks) % book.window


def same_for_all(book, put, age):
    """A pair of puts and ages that are the same for all stations and all links."""
    return (put,) * len(book), (age,) * len(book.links)


def calm(book):
    """A window without puts, with the links open at its first ticks."""
    puts, ages = same_for_all(book, 0, 0)
    rows = []
    for number in range(book.window):
        opens = [at for at, link in enumerate(book.links) if number < link[3]]
        rows.append((puts, tuple(opens), ages))
    return tuple(rows)


def rough(book):
    """A window with all puts at its first tick, and with the links open at its last ticks."""
    puts, ages = same_for_all(book, 0, book.late)
    rows = []
    for number in range(book.window):
        opens = [at for at, link in enumerate(book.links) if number >= book.window - link[3]]
        rows.append((puts, tuple(opens), ages))
    rows[0] = (tuple([put for _, _, put in book.stations]), rows[0][1], ages)
    return tuple(rows)


def finished(book, ticks):
    """The ticks, and behind them those by which least comes until the unfinished window ends."""
    check_ticks(book, ticks)
    puts, ages = same_for_all(book, 0, 0)
    left = left_now(book, ticks)
    rows = list(ticks)
    while len(rows) % book.window != 0:
        tick = (puts, must_open(left), ages)
        rows.append(tick)
        left = left_behind(left, tick)
    return tuple(rows)


def windows_many(book):
    """How many weathers of just one whole window there are."""
    window = book.window
    # What is not put in is like what would be put in at one tick more.
    puts = [comb(put + window, window) for _, _, put in book.stations]
    opens = [ways_to_be_open(window, times) for _, _, _, times in book.links]
    ages = [book.late + 1] * (window * len(book.links))
    many = 1
    for factor in puts + opens + ages:
        many = many * factor
        # No factor is 0: so it can only become more.
        if many > MOST_WINDOWS:
            raise TooMany(MOST_WINDOWS)
    return many


def ways_to_be_open(window, times):
    """At how many lots of ticks of a window a link can be open, so many times at least."""
    return sum([comb(window, many) for many in range(times, window + 1)])
