"""A flow or a cut: whether a book can be borne, and how much more (section 7 of the document)."""

from downhillnet.books import is_lot, puts_of, rooms_of, station_number
from downhillnet.errors import BadLot, NoFlow
from downhillnet.runs import ends_of
from downhillnet.values import is_between, is_row


class Web:
    """Nodes, and arcs with room, over which as much as can be is led from one node to another."""

    def __init__(self, many):
        self.arcs = [[] for _ in range(many)]
        self.ends = []
        self.left = []

    def lay(self, one, other, room):
        """Lay an arc between two nodes; its number."""
        arc = len(self.ends)
        # The arc with the next number leads back what this one has led.
        self.arcs[one].append(arc)
        self.arcs[other].append(arc + 1)
        self.ends.extend([other, one])
        self.left.extend([room, 0])
        return arc

    def led(self, arc):
        """How much is led over an arc that was laid."""
        return self.left[arc + 1]

    def depths(self, source):
        """The fewest arcs with room left that lead from the source to each node; None where none lead."""
        depths = [None] * len(self.arcs)
        depths[source] = 0
        layer = [source]
        while layer:
            later = []
            for node in layer:
                for arc in self.arcs[node]:
                    end = self.ends[arc]
                    if self.left[arc] > 0 and depths[end] is None:
                        depths[end] = depths[node] + 1
                        later.append(end)
            layer = later
        return depths

    def carry(self, source, sink):
        """Lead as much more as can be led from the source to the sink; how much that is."""
        total = 0
        depths = self.depths(source)
        while depths[sink] is not None:
            total += self.carry_down(source, sink, depths)
            depths = self.depths(source)
        return total

    def carry_down(self, source, sink, depths):
        """Lead what can be led over arcs that lead one deeper each; how much that is."""
        total = 0
        untried = [list(arcs) for arcs in self.arcs]
        path = []
        # The first arc of the path stays untried as long as the path is gone on with.
        while untried[source]:
            node = self.ends[path[-1]] if path else source
            if node == sink:
                total += self.fill(path)
                path = []
            elif untried[node]:
                arc = untried[node][-1]
                if self.left[arc] > 0 and depths[self.ends[arc]] == depths[node] + 1:
                    path.append(arc)
                else:
                    untried[node].pop()
            else:
                # Nothing more gets on from this node: so the arc to it is of no use any more.
                arc = path.pop()
                untried[self.ends[arc ^ 1]].pop()
        return total

    def fill(self, path):
        """Lead as much as there is room for along a path of arcs; how much that is."""
        many = min([self.left[arc] for arc in path])
        for arc in path:
            self.left[arc] -= many
            self.left[arc ^ 1] += many
        return many


def carriages_of(book):
    """The carriages of all links."""
    return [room * times for _, _, room, times in book.links]


def all_puts(book):
    """The puts of all stations."""
    return [put for _, _, put in book.stations]


def filled(book, puts):
    """The web of a book with these puts, as much as can be being led in it, and how much that is."""
    return filled_by(book, carriages_of(book), puts)


def filled_by(book, carriages, puts):
    """The web of a book with these carriages and puts, as much as can be being led in it, and how much that is.

    Its nodes are the stations, then the goal, then the source; the link k has the arc 2 * k.
    """
    goal = len(book)
    source = goal + 1
    web = Web(goal + 2)
    for (whence, whither), carriage in zip(ends_of(book), carriages):
        web.lay(whence, goal if whither is None else whither, carriage)
    for number, put in enumerate(puts):
        web.lay(source, number, put)
    return web, web.carry(source, goal)


def without_limit(book):
    """A put that is more than can be led."""
    return sum(carriages_of(book)) + 1


def fed_in(book, web):
    """The lot of the stations to which the source of a filled web could still lead."""
    depths = web.depths(len(book) + 1)
    return tuple(sorted([station[0] for station, depth in zip(book.stations, depths) if depth is not None]))


def check_own_lot(book, names):
    """Raise BadLot unless names are a lot of the book with at least one station."""
    if not is_lot(book, names) or len(names) == 0:
        raise BadLot(names)


def excess(book, names):
    """The puts of the stations of a lot less the carriages of the links out of it."""
    check_own_lot(book, names)
    return puts_of(book, names) - rooms_of(book, names)


def is_flow(book, value):
    """Whether any value is a flow of the book."""
    carriages = carriages_of(book)
    if not isinstance(value, tuple) or len(value) != len(carriages):
        return False
    if not all([is_between(many, 0, carriage) for many, carriage in zip(value, carriages)]):
        return False
    over = [0] * len(book)
    for (whence, whither), many in zip(ends_of(book), value):
        over[whence] += many
        if whither is not None:
            over[whither] -= many
    return over == all_puts(book)


def is_cut(book, value):
    """Whether any value is a cut of the book."""
    return is_lot(book, value) and len(value) > 0 and excess(book, value) > 0


def judged(book):
    """The word flow with a flow, if there is one; otherwise the word cut with a cut."""
    puts = all_puts(book)
    web, many = filled(book, puts)
    if many == sum(puts):
        return "flow", tuple([web.led(2 * number) for number in range(len(book.links))])
    return "cut", fed_in(book, web)


def shows_judged(book, value):
    """Whether any value is what judged may return."""
    if not isinstance(value, tuple) or len(value) != 2:
        return False
    word, shown = value
    return word == "flow" and is_flow(book, shown) or word == "cut" and is_cut(book, shown)


def has_flow(book):
    """Whether the book has a flow."""
    return judged(book)[0] == "flow"


def tops_of(book):
    """For each station the greatest excess of all lots with it, and the least one of the lots with that excess."""
    puts = all_puts(book)
    tops = []
    for number in range(len(book)):
        # A station that is fed without limit stands in each lot that holds back least.
        fed = [*puts[:number], without_limit(book), *puts[number + 1:]]
        web, many = filled(book, fed)
        tops.append((sum(puts) - many, fed_in(book, web)))
    return tops


def worst_excess(book):
    """The greatest excess of all lots."""
    return max([much for much, _ in tops_of(book)])


def least_worst(book):
    """The lot of the stations that stand in each lot with the greatest excess; None if it is empty or that below 0."""
    tops = tops_of(book)
    most = max([much for much, _ in tops])
    lots = [lot for much, lot in tops if much == most]
    common = tuple([name for name in lots[0] if all([name in lot for lot in lots])])
    return common if most >= 0 and len(common) > 0 else None


def greatest_worst(book):
    """The lot of the stations that stand in some lot with the greatest excess; None if that is below 0."""
    tops = tops_of(book)
    most = max([much for much, _ in tops])
    if most < 0:
        return None
    return tuple(sorted([station[0] for station, top in zip(book.stations, tops) if top[0] == most]))


def spare(book, name):
    """How much more may be put in at this station in a window, with a flow still there."""
    station_number(book, name)
    return spare_of(book, (name,))


def spare_of(book, names):
    """How much more may be put in at the stations of this lot together, with a flow still there."""
    return sum(shares(book, names))


def shares(book, names):
    """How much more may be put in at each station of this lot, so that it is the most together."""
    check_own_lot(book, names)
    puts = all_puts(book)
    web, many = filled(book, puts)
    if many < sum(puts):
        raise NoFlow(fed_in(book, web))
    goal = len(book)
    # What is led already stays led, as to its source: so a flow for all puts is still there behind this.
    arcs = [web.lay(goal + 1, station_number(book, name), without_limit(book)) for name in names]
    web.carry(goal + 1, goal)
    return tuple([web.led(arc) for arc in arcs])


def shows_shares(book, names, value):
    """Whether any value is what shares may return."""
    many = spare_of(book, names)
    if not is_row(value, len(names), 0, many) or sum(value) != many:
        return False
    more = dict(zip(names, value))
    puts = [put + more.get(name, 0) for name, _, put in book.stations]
    return filled(book, puts)[1] == sum(puts)
