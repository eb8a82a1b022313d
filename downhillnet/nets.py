"""Nets out of nets (section 13 of the document)."""

from downhillnet.books import (
    MOST_LINKS, MOST_PUT, MOST_ROOM, MOST_STATIONS, Book, book_text, changed, is_link, is_station,
    station_number,
)
from downhillnet.errors import (
    BadLink, BadName, BadNumber, BadStation, Held, NoDoor, NoLink, NoStation, NotPart, TooFew, TooMany, Unfit,
)
from downhillnet.values import is_between, is_name


def station_names(book):
    """The names of the stations."""
    return [station[0] for station in book.stations]


def glued(one, other, doors):
    """The book with the goal of other, and all stations and links of both; doors may be what the goal of one is."""
    if (one.window, one.margin, one.late) != (other.window, other.margin, other.late):
        raise Unfit(None)
    if one.goal not in doors:
        raise NoDoor(one.goal)
    there = [*station_names(other), other.goal]
    twice = [name for name in station_names(one) if name in there]
    if twice:
        raise Unfit(min(twice))
    many = len(one) + len(other)
    if many > MOST_STATIONS:
        raise TooMany(many)
    links = (*one.links, *other.links)
    if len(links) > MOST_LINKS:
        raise TooMany(len(links))
    return changed(other, (*one.stations, *other.stations), links)


def together(one, other):
    """The book of both, which have one goal."""
    return glued(one, other, [other.goal])


def behind(one, other):
    """The book of both, if what is home in one goes on in other."""
    return glued(one, other, [*station_names(other), other.goal])


def renamed(book, name, new):
    """The book in which this station, or the goal, is called new."""
    held = [*station_names(book), book.goal]
    if name not in held:
        raise NoStation(name)
    if not is_name(new):
        raise BadName(new)
    if new in held and new != name:
        raise Held(new)
    called = {other: other for other in held}
    called[name] = new
    stations = [(called[station], level, put) for station, level, put in book.stations]
    links = [(called[whence], called[whither], room, times) for whence, whither, room, times in book.links]
    goal = called[book.goal]
    return Book(book_text(book.window, book.margin, book.late, goal, tuple(stations), tuple(links)))


def check_link_number(book, number):
    """Raise NoLink unless number is that of a link."""
    if not is_between(number, 0, len(book.links) - 1):
        raise NoLink(number)


def exchanged(row, number, other):
    """The row with another value at this place."""
    return (*row[:number], other, *row[number + 1:])


def without_link(book, number):
    """The book without this link."""
    check_link_number(book, number)
    return changed(book, book.stations, (*book.links[:number], *book.links[number + 1:]))


def without_station(book, name):
    """The book without this station, and without the links from it and to it."""
    number = station_number(book, name)
    if len(book) == 1:
        raise TooFew(1)
    links = [link for link in book.links if name not in link[:2]]
    return changed(book, (*book.stations[:number], *book.stations[number + 1:]), tuple(links))


def with_link(book, link):
    """The book with this link, as the last one."""
    if not is_link(link, book.window, book.goal, book.stations, book.links):
        raise BadLink(link)
    if len(book.links) == MOST_LINKS:
        raise TooMany(MOST_LINKS + 1)
    return changed(book, book.stations, (*book.links, link))


def with_station(book, station):
    """The book with this station, as the last one."""
    if not is_station(station, book.goal, book.stations):
        raise BadStation(station)
    if len(book) == MOST_STATIONS:
        raise TooMany(MOST_STATIONS + 1)
    return changed(book, (*book.stations, station), book.links)


def with_put(book, name, put):
    """The book with this put at a station."""
    number = station_number(book, name)
    if not is_between(put, 0, MOST_PUT):
        raise BadNumber(put)
    station = (*book.stations[number][:2], put)
    return changed(book, exchanged(book.stations, number, station), book.links)


def with_open(book, number, room, times):
    """The book in which a link has this room, and is open so many times."""
    check_link_number(book, number)
    if not is_between(room, 1, MOST_ROOM):
        raise BadNumber(room)
    if not is_between(times, 0, book.window):
        raise BadNumber(times)
    link = (*book.links[number][:2], room, times)
    return changed(book, book.stations, exchanged(book.links, number, link))


def reached(pairs, name):
    """The names to which one comes from this one, it too, if each of these pairs leads from the one to the other."""
    found = {name: True}
    many = 0
    while many < len(found):
        many = len(found)
        for whence, whither in pairs:
            if whence in found:
                found[whither] = True
    return found


def parts_of(book):
    """The lots of stations that hang together by links, the goal not counted."""
    names = station_names(book)
    pairs = [(whence, whither) for whence, whither, _, _ in book.links if whither != book.goal]
    both = pairs + [(whither, whence) for whence, whither in pairs]
    # All stations of a part come to the same ones.
    return tuple(sorted(set([tuple(sorted(reached(both, name))) for name in names])))


def part(book, names):
    """The book of one of the parts."""
    if names not in parts_of(book):
        raise NotPart(names)
    stations = [station for station in book.stations if station[0] in names]
    links = [link for link in book.links if link[0] in names]
    return changed(book, tuple(stations), tuple(links))


def rounds(book):
    """The greatest lots of several stations from each of which one comes to each other one over links that open."""
    pairs = [(whence, whither) for whence, whither, _, times in book.links if times > 0 and whither != book.goal]
    names = station_names(book)
    ways = {name: reached(pairs, name) for name in names}
    lots = [tuple(sorted([other for other in ways[name] if name in ways[other]])) for name in names]
    return tuple(sorted(set([lot for lot in lots if len(lot) > 1])))
