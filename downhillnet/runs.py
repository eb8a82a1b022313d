"""Runs: the rule, tick by tick (section 6 of the document)."""

from downhillnet.books import is_lot, station_number
from downhillnet.errors import BadHeaps, BadNames, BadTick, BadTicks
from downhillnet.values import is_row
from downhillnet.weather import MOST_TICKS, is_tick

MOST_IN_HEAP = 10 ** 9


class Run:
    """A net that goes on tick by tick."""

    def __init__(self, book):
        self.book = book
        self.tick = 0
        self.window = 0
        self.heaps = (0,) * len(book)
        self.home = 0
        self.weather = ()
        self.passed = (0,) * len(book.links)
        self.ends = ends_of(book)
        self.past = past_of(book, self.heaps)

    def go_on(self, tick):
        """Do the tick that comes next; how many packets each link passes at it."""
        if not is_tick(self.book, tick):
            raise BadTick(tick)
        self.past, passes = step(self.book, self.ends, self.past, tick)
        self.heaps = self.past[0]
        self.home += sum_home(self.ends, passes)
        self.tick += 1
        self.window = self.tick // self.book.window
        self.weather = (*self.weather, tick)
        self.passed = tuple([one + other for one, other in zip(self.passed, passes)])
        return passes

    def copy(self):
        """A run that stands alike, and goes on by itself."""
        other = Run(self.book)
        other.tick = self.tick
        other.window = self.window
        other.heaps = self.heaps
        other.home = self.home
        other.weather = self.weather
        other.passed = self.passed
        other.past = self.past
        return other


def run_from(book, heaps):
    """A run that begins with these heaps."""
    if not is_row(heaps, len(book), 0, MOST_IN_HEAP):
        raise BadHeaps(heaps)
    run = Run(book)
    run.heaps = heaps
    run.past = past_of(book, heaps)
    return run


def ends_of(book):
    """For each link the numbers of the stations from which and to which it leads; None for the goal."""
    ends = []
    for whence, whither, _, _ in book.links:
        there = None if whither == book.goal else station_number(book, whither)
        ends.append((station_number(book, whence), there))
    return tuple(ends)


def past_of(book, heaps):
    """The heaps as they are heard by age, if they have lain for long."""
    return (heaps,) * (book.late + 1)


def step(book, ends, past, tick):
    """The past behind a tick, and what each link passes at it.

    A past tells the heaps by age: first those at the beginning of the tick that comes next.
    """
    passes = passes_at(book, ends, past, tick)
    return (heaps_behind(ends, past[0], tick[0], passes), *past[:book.late]), passes


def heaps_behind(ends, heaps, puts, passes):
    """The heaps behind a tick at which so much is put in at each station, and so much passes each link."""
    lies = [heap + put for heap, put in zip(heaps, puts)]
    for (whence, whither), many in zip(ends, passes):
        lies[whence] -= many
        if whither is not None:
            lies[whither] += many
    return tuple(lies)


def passes_at(book, ends, past, tick):
    """What each link passes at a tick, by the rule."""
    puts, opens, ages = tick
    has = [heap + put for heap, put in zip(past[0], puts)]
    left = list(has)
    passes = [0] * len(ends)
    for number in opens:
        whence = ends[number][0]
        if has[whence] > limit_of(book, ends[number], past[ages[number]]):
            passes[number] = min(book.links[number][2], left[whence])
            left[whence] -= passes[number]
    return tuple(passes)


def limit_of(book, pair, heaps):
    """The most that the first end of a link can have, level not counted, without passing, if these heaps are heard."""
    whence, whither = pair
    heard = 0 if whither is None else book.stations[whither][1] + heaps[whither]
    return book.margin + heard - book.stations[whence][1]


def sum_home(ends, passes):
    """How many of the packets that the links pass come home."""
    return sum([many for pair, many in zip(ends, passes) if pair[1] is None])


def check_any_ticks(book, ticks):
    """Raise BadTicks unless ticks are ticks for the book; they need not be a weather."""
    if not isinstance(ticks, tuple) or len(ticks) > MOST_TICKS:
        raise BadTicks(None)
    for number, tick in enumerate(ticks):
        if not is_tick(book, tick):
            raise BadTicks(number)


def story_of(book, ticks):
    """The heaps at the beginning of each tick, and of the one that comes next; what the links pass at each tick."""
    check_any_ticks(book, ticks)
    ends = ends_of(book)
    past = past_of(book, (0,) * len(book))
    heaps = [past[0]]
    rows = []
    for tick in ticks:
        past, passes = step(book, ends, past, tick)
        heaps.append(past[0])
        rows.append(passes)
    return heaps, rows


def played(book, ticks):
    """The heaps behind these ticks, and how many packets are home then."""
    heaps, rows = story_of(book, ticks)
    ends = ends_of(book)
    return heaps[-1], sum([sum_home(ends, passes) for passes in rows])


def heaps_of(book, ticks):
    """The heaps at the beginning of each tick, and of the one that comes next."""
    return tuple(story_of(book, ticks)[0])


def passes_of(book, ticks):
    """What each link passes at each tick."""
    return tuple(story_of(book, ticks)[1])


def most_in(book, ticks, names):
    """The most packets that lie in these stations together at the beginning of some tick."""
    heaps = heaps_of(book, ticks)
    if not is_lot(book, names):
        raise BadNames(names)
    return max([sum_in(book, names, row) for row in heaps])


def sum_in(book, names, heaps):
    """How many packets of these heaps lie in the stations with these names together."""
    return sum([heap for station, heap in zip(book.stations, heaps) if station[0] in names])
