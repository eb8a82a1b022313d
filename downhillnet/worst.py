"""What is worst, by going through all that weathers can bring about (section 8 of the document)."""

from downhillnet.errors import BadNumber, TooMany
from downhillnet.flows import check_own_lot, has_flow
from downhillnet.runs import ends_of, limit_of, past_of, played, sum_in
from downhillnet.values import is_between
from downhillnet.weather import first_bad, may_come

MOST_STANDINGS = 10000
MOST_AT_FIRST = 5000


class Search:
    """What can come about at one tick behind each standing of a book.

    A standing is a tuple (past, number, counts): past tells the heaps by age, number how many ticks of an unfinished
    window there have been, counts for each station how many packets were put in there in these, and at how many of
    these each link from it was open.

    An act is what comes to one station at a tick: how many packets are put in, and for each link from it an age, or
    None if the link is shut. So what comes to one station is chosen without regard to the others.
    """

    def __init__(self, book):
        self.book = book
        self.ends = ends_of(book)
        self.links_from = [
            [number for number, pair in enumerate(self.ends) if pair[0] == station] for station in range(len(book))
        ]

    def first(self):
        """The standing ahead of tick 0."""
        counts = [(0, (0,) * len(links)) for links in self.links_from]
        return past_of(self.book, (0,) * len(self.book)), 0, tuple(counts)

    def behind(self, standing):
        """The standings that can come next, and for each one the acts of all stations that lead to it."""
        past, number, _ = standing
        sums = {((0,) * len(self.book), ()): ()}
        for station in range(len(self.book)):
            acts = self.acts(standing, station)
            sums = {
                (tuple([one + other for one, other in zip(heaps, added)]), (*counts, count)): (*ahead, act)
                for (heaps, counts), ahead in sums.items() for (added, count), act in acts.items()
            }
        number = (number + 1) % self.book.window
        kept = past[:self.book.late]
        return {((heaps, *kept), number, counts): done for (heaps, counts), done in sums.items()}

    def acts(self, standing, station):
        """The acts of a station, by what comes of them; only one of those of which the same comes."""
        past, number, counts = standing
        put_in, opens = counts[station]
        last = number + 1 == self.book.window
        plans = [self.plan(standing, link, times) for link, times in zip(self.links_from[station], opens)]
        acts = {}
        for put in range(self.book.stations[station][2] - put_in + 1):
            has = past[0][station] + put
            rows = {(tuple([has if at == station else 0 for at in range(len(self.book))]), ()): ()}
            for plan in plans:
                rows = self.further(rows, plan[0], choices_of(plan, has))
            for (heaps, times), ages in rows.items():
                acts[(heaps, (0 if last else put_in + put, times))] = (put, ages)
        return acts

    def plan(self, standing, link, times):
        """What a link can do that was open so many times in its window: a tuple (link, shut, opened, limits).

        Shut and opened tell how often it was open behind the tick, if it is shut, None if it may not be, or open; the
        limits by age what its station can have at most without passing.
        """
        past, number, _ = standing
        limits = [limit_of(self.book, self.ends[link], heaps) for heaps in past]
        still = self.book.window - number - 1
        may_shut = times + still >= self.book.links[link][3]
        # Behind the last tick of a window it is of no account what was counted in it.
        shut, opened = (times, times + 1) if still > 0 else (0, 0)
        return link, (shut if may_shut else None), opened, limits

    def further(self, rows, link, choices):
        """The rows of ages with that of one link more, by the heaps and the counts that come of them."""
        longer = {}
        for (heaps, counts), ages in rows.items():
            for age, passing, times in choices:
                lies = self.let_pass(heaps, link) if passing else heaps
                longer[(lies, (*counts, times))] = (*ages, age)
        return longer

    def let_pass(self, heaps, link):
        """The heaps, when a link has passed what it can."""
        whence, whither = self.ends[link]
        lies = list(heaps)
        many = min(self.book.links[link][2], lies[whence])
        lies[whence] -= many
        if whither is not None:
            lies[whither] += many
        return tuple(lies)

    def tick_of(self, acts):
        """The tick at which these acts are done, one for each station."""
        ages = {}
        for links, (_, row) in zip(self.links_from, acts):
            for link, age in zip(links, row):
                if age is not None:
                    ages[link] = age
        puts = tuple([put for put, _ in acts])
        return puts, tuple(sorted(ages)), tuple([ages.get(link, 0) for link in range(len(self.ends))])


def choices_of(plan, has):
    """The choices of a link whose station has so many packets: tuples of its age, whether it passes, and its count.

    It can be shut, if it may be; or it hears, at one age or another, what lets it pass, or what does not.
    """
    _, shut, opened, limits = plan
    choices = [] if shut is None else [(None, False, shut)]
    if has > min(limits):
        choices.append((limits.index(min(limits)), True, opened))
    if has <= max(limits):
        choices.append((limits.index(max(limits)), False, opened))
    return choices


def many_at_first(book):
    """How many ticks could come as tick 0."""
    most, must = may_come(book, ())
    links = len(book.links)
    many = 1
    for factor in [*[put + 1 for put in most], *[2] * (links - len(must)), *[book.late + 1] * links]:
        many = many * factor
    return many


def all_standings(book, most):
    """All standings, those with fewer ticks ahead: for each one that ahead of it, and the acts that lead from there."""
    if not is_between(most, 1, MOST_STANDINGS):
        raise BadNumber(most)
    if many_at_first(book) > MOST_AT_FIRST:
        raise TooMany(MOST_AT_FIRST)
    if not has_flow(book):
        # Of a book with a cut the heaps grow without end: going through would only tell the same, later.
        raise TooMany(most)
    search = Search(book)
    found = {search.first(): None}
    layer = [search.first()]
    while layer:
        later = []
        for standing in layer:
            for other, acts in search.behind(standing).items():
                if other in found:
                    continue
                if len(found) == most:
                    raise TooMany(most)
                found[other] = (standing, acts)
                later.append(other)
        layer = later
    return found


def standings_many(book, most):
    """How many standings there are."""
    return len(all_standings(book, most))


def worst_lot(book, names, most):
    """The most packets that these stations hold together at the beginning of some tick, in all weathers."""
    check_own_lot(book, names)
    return max([sum_in(book, names, past[0]) for past, _, _ in all_standings(book, most)])


def worst_weather(book, names, most):
    """A weather with the fewest ticks behind which these stations hold as many packets as worst_lot tells."""
    check_own_lot(book, names)
    found = all_standings(book, most)
    rows = list(found)
    sums = [sum_in(book, names, past[0]) for past, _, _ in rows]
    search = Search(book)
    ticks = []
    ahead = found[rows[sums.index(max(sums))]]
    while ahead is not None:
        standing, acts = ahead
        ticks.append(search.tick_of(acts))
        ahead = found[standing]
    return tuple(ticks[::-1])


def shows_worst_weather(book, names, most, value):
    """Whether any value is what worst_weather may return."""
    best = worst_weather(book, names, most)
    if not isinstance(value, tuple) or len(value) != len(best) or first_bad(book, value) is not None:
        return False
    return sum_in(book, names, played(book, value)[0]) == sum_in(book, names, played(book, best)[0])
