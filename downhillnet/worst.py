"""What is worst, by going through all that weathers can bring about (section 8 of the document)."""

from downhillnet.errors import BadNumber, TooMany
from downhillnet.flows import check_own_lot, has_flow
from downhillnet.runs import ends_of, limit_of, past_of, played, sum_in
from downhillnet.values import is_between
from downhillnet.weather import first_bad, may_come

MOST_STANDINGS = 10000
MOST_AT_FIRST = 5000


class Search:
    """What can come about at one tick behind each standing of a book.

    A standing is a tuple (past, number, counts): past tells the heaps by age, number how many ticks of an unfinished
    window there have been, counts for each station how many packets were put in there in these, and at how many of
    these each link from it was open.

    An act is what is done at a tick to one station: how many packets are put in, and a choice (age, passing) for
    each link from it. So the links of one station are chosen without regard to those of the others.
    """

    def __init__(self, book):
        self.book = book
        self.ends = ends_of(book)
        self.links_from = [
            [number for number, pair in enumerate(self.ends) if pair[0] == station] for station in range(len(book))
        ]
        self.no_counts = tuple([(0, (0,) * len(links)) for links in self.links_from])

    def first(self):
        """The standing ahead of tick 0."""
        return past_of(self.book, (0,) * len(self.book)), 0, self.no_counts

    def behind(self, standing):
        """The standings that can come next, and for each one the acts of all stations that lead to it."""
        past, number, _ = standing
        sums = {((0,) * len(self.book), ()): ()}
        for station in range(len(self.book)):
            acts = self.acts(standing, station)
            sums = {
                (tuple([one + other for one, other in zip(heaps, added)]), (*counts, count)): (*ahead, act)
                for (heaps, counts), ahead in sums.items() for (added, count), act in acts.items()
            }
        number = (number + 1) % self.book.window
        kept = past[:self.book.late]
        return {((heaps, *kept), number, counts): done for (heaps, counts), done in sums.items()}

    def acts(self, standing, station):
        """The acts of a station, by what comes of them; only one of those of which the same comes."""
        past, number, counts = standing
        put_in, opens = counts[station]
        links = self.links_from[station]
        still = self.book.window - number - 1
        may_shut = [many + still >= self.book.links[link][3] for link, many in zip(links, opens)]
        limits = [[limit_of(self.book, self.ends[link], heaps) for heaps in past] for link in links]
        acts = {}
        for put in range(self.book.stations[station][2] - put_in + 1):
            has = past[0][station] + put
            rows = [()]
            for shut, limit in zip(may_shut, limits):
                choices = choices_of(shut, limit, has)
                rows = [(*row, choice) for row in rows for choice in choices]
            for row in rows:
                # Behind the last tick of a window it is of no account what was counted in it.
                count = counted(counts[station], put, row) if still > 0 else self.no_counts[station]
                acts[(self.heaps_of(station, has, row), count)] = (put, row)
        return acts

    def heaps_of(self, station, has, row):
        """What lies in the stations behind the tick of what one station has, by a row of choices for its links."""
        heaps = [0] * len(self.book)
        heaps[station] = has
        for link, (_, passing) in zip(self.links_from[station], row):
            if passing:
                many = min(self.book.links[link][2], heaps[station])
                heaps[station] -= many
                whither = self.ends[link][1]
                if whither is not None:
                    heaps[whither] += many
        return tuple(heaps)

    def tick_of(self, acts):
        """The tick at which these acts are done, one for each station."""
        ages = {}
        for links, (_, row) in zip(self.links_from, acts):
            for link, (age, _) in zip(links, row):
                if age is not None:
                    ages[link] = age
        puts = tuple([put for put, _ in acts])
        return puts, tuple(sorted(ages)), tuple([ages.get(link, 0) for link in range(len(self.ends))])


def choices_of(shut, limits, has):
    """The choices of a link from a station that has so many packets: shut, if it may be, and each answer to hear.

    The limits tell by age how many the station can have without passing.
    """
    choices = [(None, False)] if shut else []
    if has > min(limits):
        choices.append((limits.index(min(limits)), True))
    if has <= max(limits):
        choices.append((limits.index(max(limits)), False))
    return choices


def counted(count, put, row):
    """The count of a station behind an act that does not end a window."""
    opens = tuple([many + (0 if age is None else 1) for many, (age, _) in zip(count[1], row)])
    return count[0] + put, opens


def many_at_first(book):
    """How many ticks could come as tick 0."""
    most, must = may_come(book, ())
    links = len(book.links)
    many = 1
    for factor in [*[put + 1 for put in most], *[2] * (links - len(must)), *[book.late + 1] * links]:
        many = many * factor
    return many


def all_standings(book, most):
    """All standings, those with fewer ticks ahead: for each one that ahead of it, and the acts that lead from there."""
    if not is_between(most, 1, MOST_STANDINGS):
        raise BadNumber(most)
    if many_at_first(book) > MOST_AT_FIRST:
        raise TooMany(MOST_AT_FIRST)
    if not has_flow(book):
        # Of a book with a cut the heaps grow without end: going through would only tell the same, later.
        raise TooMany(most)
    search = Search(book)
    found = {search.first(): None}
    layer = [search.first()]
    while layer:
        later = []
        for standing in layer:
            for other, acts in search.behind(standing).items():
                if other in found:
                    continue
                if len(found) == most:
                    raise TooMany(most)
                found[other] = (standing, acts)
                later.append(other)
        layer = later
    return found


def standings_many(book, most):
    """How many standings there are."""
    return len(all_standings(book, most))


def worst_lot(book, names, most):
    """The most packets that these stations hold together at the beginning of some tick, in all weathers."""
    check_own_lot(book, names)
    return max([sum_in(book, names, past[0]) for past, _, _ in all_standings(book, most)])


def worst_weather(book, names, most):
    """A weather with the fewest ticks behind which these stations hold as many packets as worst_lot tells."""
    check_own_lot(book, names)
    found = all_standings(book, most)
    rows = list(found)
    sums = [sum_in(book, names, past[0]) for past, _, _ in rows]
    search = Search(book)
    ticks = []
    ahead = found[rows[sums.index(max(sums))]]
    while ahead is not None:
        standing, acts = ahead
        ticks.append(search.tick_of(acts))
        ahead = found[standing]
    return tuple(ticks[::-1])


def shows_worst_weather(book, names, most, value):
    """Whether any value is what worst_weather may return."""
    best = worst_weather(book, names, most)
    if not isinstance(value, tuple) or len(value) != len(best) or first_bad(book, value) is not None:
        return False
    return sum_in(book, names, played(book, value)[0]) == sum_in(book, names, played(book, best)[0])
