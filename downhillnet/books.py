"""Books: what is promised of a net (section 4 of the document)."""

from downhillnet.errors import BadBook, BadLinks, BadLot, BadName, BadNumber, BadStations, NoLink, NoStation
from downhillnet.values import is_ascending, is_between, is_name, number_of

# The least and the greatest of window, margin and late.
HEAD = ((1, 40), (0, 10000000), (0, 20))
MOST_STATIONS = 20
MOST_LEVEL = 300000000
MOST_PUT = 1000000
MOST_LINKS = 60
MOST_ROOM = 1000


class Book:
    """The book of a net, read from its text."""

    def __init__(self, text):
        if not isinstance(text, str):
            raise BadBook(0)
        lines = text.split("\n")
        self.text = text
        self.window, self.margin, self.late = read_head(lines)
        self.goal = read_goal(lines)
        self.stations = read_stations(lines, self.goal)
        self.links = read_links(lines, self.window, self.goal, self.stations)

    def __eq__(self, other):
        return isinstance(other, Book) and self.text == other.text

    def __len__(self):
        return len(self.stations)


def read_head(lines):
    """Window, margin and late, from the first one of the lines of a book."""
    word, *rest = lines[0].split(" ")
    numbers = values_of(rest, 0)
    if word != "net" or len(numbers) != len(HEAD):
        raise BadBook(1)
    if not all([is_between(number, least, most) for number, (least, most) in zip(numbers, HEAD)]):
        raise BadBook(1)
    return numbers


def read_goal(lines):
    """The name of the goal, from the second one of the lines of a book."""
    words = lines[1].split(" ") if len(lines) > 1 else []
    if len(words) != 2 or words[0] != "goal" or not is_name(words[1]):
        raise BadBook(2)
    return words[1]


def read_stations(lines, goal):
    """The stations, from the lines of a book, behind those of the head and of the goal."""
    stations = ()
    for number, line in enumerate(lines[2:], start=3):
        word, *rest = line.split(" ")
        if word != "station":
            break
        station = values_of(rest, 1)
        if len(stations) == MOST_STATIONS or not is_station(station, goal, stations):
            raise BadBook(number)
        stations = (*stations, station)
    # The third line is another one, or it lacks.
    if len(stations) == 0:
        raise BadBook(3)
    return stations


def read_links(lines, window, goal, stations):
    """The links, from all lines of a book that stand behind those of its stations."""
    links = ()
    ahead = 2 + len(stations)
    for number, line in enumerate(lines[ahead:], start=ahead + 1):
        word, *rest = line.split(" ")
        link = values_of(rest, 2)
        if word != "link" or len(links) == MOST_LINKS or not is_link(link, window, goal, stations, links):
            raise BadBook(number)
        links = (*links, link)
    return links


def values_of(words, names):
    """The tuple of the words of a line, the first ones as they are, those behind as many as names as numbers."""
    return tuple(words[:names] + [number_of(word) for word in words[names:]])


def is_station(value, goal, stations):
    """Whether any value can be a station behind these ones, with this goal, however many there are."""
    if not isinstance(value, tuple) or len(value) != 3:
        return False
    name, level, put = value
    if not is_name(name) or name == goal or name in [station[0] for station in stations]:
        return False
    return is_between(level, 0, MOST_LEVEL) and is_between(put, 0, MOST_PUT)


def is_link(value, window, goal, stations, links):
    """Whether any value can be a link behind these ones, with these stations, however many there are."""
    if not isinstance(value, tuple) or len(value) != 4:
        return False
    whence, whither, room, times = value
    names = [station[0] for station in stations]
    if whence not in names or whither not in [goal, *names] or whence == whither:
        return False
    if (whence, whither) in [link[:2] for link in links]:
        return False
    return is_between(room, 1, MOST_ROOM) and is_between(times, 0, window)


def are_stations(value, goal):
    """Whether any value can be the stations of a book with this goal."""
    if not isinstance(value, tuple) or not 1 <= len(value) <= MOST_STATIONS:
        return False
    # A station is asked for only behind others that are stations: their names are read.
    for number, station in enumerate(value):
        if not is_station(station, goal, value[:number]):
            return False
    return True


def are_links(value, window, goal, stations):
    """Whether any value can be the links of a book with this window, this goal and these stations."""
    if not isinstance(value, tuple) or len(value) > MOST_LINKS:
        return False
    for number, link in enumerate(value):
        if not is_link(link, window, goal, stations, value[:number]):
            return False
    return True


def book_text(window, margin, late, goal, stations, links):
    """The text of the book with these properties."""
    for value, (least, most) in zip((window, margin, late), HEAD):
        if not is_between(value, least, most):
            raise BadNumber(value)
    if not is_name(goal):
        raise BadName(goal)
    if not are_stations(stations, goal):
        raise BadStations(stations)
    if not are_links(links, window, goal, stations):
        raise BadLinks(links)
    lines = [f"net {window} {margin} {late}", f"goal {goal}"]
    for name, level, put in stations:
        lines.append(f"station {name} {level} {put}")
    for whence, whither, room, times in links:
        lines.append(f"link {whence} {whither} {room} {times}")
    return "\n".join(lines)


def changed(book, stations, links):
    """The book with these stations and these links, and else as before."""
    return Book(book_text(book.window, book.margin, book.late, book.goal, stations, links))


def station_number(book, name):
    """The number of the station with this name."""
    for number, station in enumerate(book.stations):
        if station[0] == name:
            return number
    raise NoStation(name)


def link_number(book, one, other):
    """The number of the link from the station one to other."""
    for number, link in enumerate(book.links):
        if link[0] == one and link[1] == other:
            return number
    raise NoLink((one, other))


def is_lot(book, value):
    """Whether any value is a lot of the book."""
    if not isinstance(value, tuple):
        return False
    names = [station[0] for station in book.stations]
    # Only of names of stations is it known that they can be compared.
    return all([name in names for name in value]) and is_ascending(value)


def check_lot(book, names):
    """Raise BadLot unless names are a lot of the book."""
    if not is_lot(book, names):
        raise BadLot(names)


def links_out(book, names):
    """The numbers of the links from a station of the lot to what is not in it."""
    check_lot(book, names)
    return tuple([
        number for number, link in enumerate(book.links) if link[0] in names and link[1] not in names
    ])


def links_in(book, names):
    """The numbers of the links into a station of the lot from one that is not in it."""
    check_lot(book, names)
    return tuple([
        number for number, link in enumerate(book.links) if link[0] not in names and link[1] in names
    ])


def rooms_of(book, names):
    """The sum of room times open over the links out of the lot."""
    outward = [book.links[number] for number in links_out(book, names)]
    return sum([room * times for _, _, room, times in outward])


def puts_of(book, names):
    """The sum of the puts of the stations of the lot."""
    check_lot(book, names)
    return sum([put for name, _, put in book.stations if name in names])
