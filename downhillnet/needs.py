"""What is needed: a book is changed in one number (section 12 of the document)."""

from math import gcd

from downhillnet.books import HEAD, changed, is_lot, puts_of, rooms_of
from downhillnet.errors import BadNumber
from downhillnet.flows import all_puts, carriages_of, fed_in, filled_by, spare
from downhillnet.values import is_between, is_integer


def check_link(book, number):
    """Raise BadNumber unless number is that of a link."""
    if not is_between(number, 0, len(book.links) - 1):
        raise BadNumber(number)


def is_borne(book, carriages):
    """Whether there is a flow with these carriages of the links."""
    puts = all_puts(book)
    return filled_by(book, carriages, puts)[1] == sum(puts)


def is_borne_with(book, number, times):
    """Whether there is a flow if this link is open so many times."""
    carriages = carriages_of(book)
    carriages[number] = book.links[number][2] * times
    return is_borne(book, carriages)


def least_open(book, number):
    """How often a link has to be open at least, so that there is a flow; None if that is never enough."""
    check_link(book, number)
    for times in range(book.window + 1):
        if is_borne_with(book, number, times):
            return times
    return None


def needful(book):
    """The links without which there is no flow."""
    return tuple([number for number in range(len(book.links)) if not is_borne_with(book, number, 0)])


def scale(book):
    """By what all puts can be multiplied at most, as top, bottom and a lot that allows no more; None without puts."""
    puts = all_puts(book)
    if sum(puts) == 0:
        return None
    names = tuple(sorted([station[0] for station in book.stations]))
    while True:
        # All carriages multiplied with bottom bear all puts multiplied with top, or a lot tells a lesser fraction.
        top, bottom = fraction_of(book, names)
        carriages = [carriage * bottom for carriage in carriages_of(book)]
        web, many = filled_by(book, carriages, [put * top for put in puts])
        if many == sum(puts) * top:
            return top, bottom, names
        names = fed_in(book, web)


def fraction_of(book, names):
    """The carriages out of a lot by its puts, which are above 0, in lowest terms."""
    top, bottom = rooms_of(book, names), puts_of(book, names)
    divisor = gcd(top, bottom)
    return top // divisor, bottom // divisor


def shows_scale(book, value):
    """Whether any value is what scale may return."""
    best = scale(book)
    if best is None:
        return value is None
    if not isinstance(value, tuple) or len(value) != 3:
        return False
    top, bottom, names = value
    if not is_integer(top) or not is_integer(bottom) or (top, bottom) != best[:2]:
        return False
    return is_lot(book, names) and puts_of(book, names) > 0 and fraction_of(book, names) == (top, bottom)


def worth(book, number, name):
    """How much greater spare would be if a link were open once more; None if it is always open."""
    check_link(book, number)
    much = spare(book, name)
    whence, whither, room, times = book.links[number]
    if times == book.window:
        return None
    link = (whence, whither, room, times + 1)
    links = (*book.links[:number], link, *book.links[number + 1:])
    return spare(changed(book, book.stations, links), name) - much


def least_window(book):
    """The least window with which there is a flow, if each link is always open; None if there is none."""
    least, most = HEAD[0]
    for window in range(least, most + 1):
        if is_borne(book, [room * window for _, _, room, _ in book.links]):
            return window
    return None
