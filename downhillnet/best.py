"""The best that moves can do (section 9 of the document)."""

from downhillnet.books import is_lot
from downhillnet.errors import TooMany
from downhillnet.flows import Web
from downhillnet.runs import ends_of, sum_home
from downhillnet.spoil import is_moves
from downhillnet.values import is_integer
from downhillnet.weather import check_ticks

MOST_TO_PLAN = 60


class Plan:
    """As many packets as can be, led home over the ticks of a weather.

    Each station is a node ahead of each tick, and behind the last one: those ahead of tick t have the numbers from
    t * len(book) on. Then come the goal and the source.
    """

    def __init__(self, book, ticks):
        self.book = book
        self.ends = ends_of(book)
        self.goal = len(book) * (len(ticks) + 1)
        self.source = self.goal + 1
        self.web = Web(self.source + 1)
        self.arcs = [self.lay_tick(number, tick) for number, tick in enumerate(ticks)]
        # What lies at a station can stay there, however much it is.
        limit = sum([sum(puts) for puts, _, _ in ticks]) + 1
        for node in range(self.goal - len(book)):
            self.web.lay(node, node + len(book), limit)
        self.many = self.web.carry(self.source, self.goal)

    def lay_tick(self, number, tick):
        """Lay what leads to and from the stations ahead of a tick; the arcs of the links that are open at it."""
        puts, opens, _ = tick
        here = number * len(self.book)
        there = here + len(self.book)
        for station, put in enumerate(puts):
            self.web.lay(self.source, here + station, put)
        arcs = {}
        for link in opens:
            whence, whither = self.ends[link]
            end = self.goal if whither is None else there + whither
            arcs[link] = self.web.lay(here + whence, end, self.book.links[link][2])
        return arcs

    def moves(self):
        """What each link passes at each tick."""
        links = range(len(self.ends))
        return tuple([
            tuple([self.web.led(arcs[link]) if link in arcs else 0 for link in links]) for arcs in self.arcs
        ])

    def lots(self):
        """For each moment the lot of the stations from which more could be led, if more could be led on."""
        depths = self.web.depths(self.source)
        names = [station[0] for station in self.book.stations]
        lots = []
        for here in range(0, self.goal, len(names)):
            lots.append(tuple(sorted([name for at, name in enumerate(names) if depths[here + at] is not None])))
        return tuple(lots)


def check_to_plan(book, ticks):
    """Raise BadTicks unless ticks are a weather, TooMany if they are too many to look for the best moves."""
    check_ticks(book, ticks)
    if len(ticks) > MOST_TO_PLAN:
        raise TooMany(MOST_TO_PLAN)


def most_home(book, ticks):
    """The greatest number of packets that any moves bring home by the end of these ticks, and such moves."""
    check_to_plan(book, ticks)
    plan = Plan(book, ticks)
    return plan.many, plan.moves()


def shows_most_home(book, ticks, value):
    """Whether any value is what most_home may return."""
    best = most_home(book, ticks)[0]
    if not isinstance(value, tuple) or len(value) != 2:
        return False
    many, moves = value
    if not is_integer(many) or many != best or not is_moves(book, ticks, moves):
        return False
    ends = ends_of(book)
    return sum([sum_home(ends, passes) for passes in moves]) == many


def home_lots(book, ticks):
    """Lots, one for each moment, whose worth is what most_home tells: so no more can come home."""
    check_to_plan(book, ticks)
    return Plan(book, ticks).lots()


def shows_home_lots(book, ticks, value):
    """Whether any value is what home_lots may return."""
    best = most_home(book, ticks)[0]
    return are_growing_lots(book, value, len(ticks) + 1) and worth_of_lots(book, ticks, value) == best


def are_growing_lots(book, value, many):
    """Whether any value is a tuple of so many lots, each a part of the next one."""
    if not isinstance(value, tuple) or len(value) != many or not all([is_lot(book, lot) for lot in value]):
        return False
    return all([name in later for lot, later in zip(value, value[1:]) for name in lot])


def worth_of_lots(book, ticks, lots):
    """How many packets come home at most, as far as these lots tell: one for each moment, each a part of the next."""
    worth = 0
    for (puts, opens, _), lot, later in zip(ticks, lots, lots[1:]):
        worth += sum([put for station, put in zip(book.stations, puts) if station[0] not in lot])
        for link in opens:
            whence, whither, room, _ = book.links[link]
            if whence in lot and whither not in later:
                worth += room
    return worth
