"""A desk of live nets, and its journal (section 15 of the document)."""

from downhillnet.books import (
    MOST_LINKS, MOST_STATIONS, Book, changed, is_link, is_station, link_number, station_number, values_of,
)
from downhillnet.errors import (
    Amid, BadDeed, BadDesk, BadLink, BadName, BadNumber, BadStation, Held, LastOne, NetError, NoNet, NoNote, NotEmpty,
    NothingToRedo, NothingToUndo, TooMany,
)
from downhillnet.nets import exchanged, without_link, without_station
from downhillnet.runs import Run, run_from
from downhillnet.values import is_between, is_name, number_of
from downhillnet.weather import calm

MOST_CALM = 20


class Desk:
    """Nets under names, which go on by deeds that can be undone and done again."""

    def __init__(self):
        self.names = ()
        self.nets = {}
        # A step is a tuple (deed, name, ahead, behind): the deed, and the run, or None, that the net was and became.
        self.steps = []
        self.undone = []
        self.noted = {}

    def __len__(self):
        return len(self.names)

    def __contains__(self, x):
        return isinstance(x, str) and x in self.nets

    def lead(self, deed):
        """Do a deed."""
        name, run = outcome_of(self.nets, deed)
        many = len(self.steps)
        self.noted = {word: number for word, number in self.noted.items() if number <= many}
        self.undone = []
        self.steps.append((deed, name, self.nets.get(name), run))
        self.hold(name, run)

    def hold(self, name, run):
        """From now on the net is this run; if that is None, there is none."""
        # No run that is held goes on, only a copy of it: so what was undone comes back as it stood.
        if run is None:
            self.nets.pop(name)
        else:
            self.nets[name] = run
        self.names = tuple(sorted(self.nets))

    def run_of(self, name):
        """A copy of the run of a net."""
        return run_in(self.nets, name).copy()

    def book_of(self, name):
        """The book of a net."""
        return run_in(self.nets, name).book

    def lies(self, name):
        """For each station of a net its name, and how many packets lie there."""
        run = run_in(self.nets, name)
        return tuple([(station[0], heap) for station, heap in zip(run.book.stations, run.heaps)])

    def all_in(self, name):
        """How many packets lie at all stations of a net together."""
        return sum(run_in(self.nets, name).heaps)

    def undo(self):
        """Undo the last deed that stands."""
        if len(self.steps) == 0:
            raise NothingToUndo(0)
        step = self.steps.pop()
        self.undone.append(step)
        _, name, ahead, _ = step
        self.hold(name, ahead)

    def redo(self):
        """Do again the deed that was undone last."""
        if len(self.undone) == 0:
            raise NothingToRedo(len(self.steps))
        step = self.undone.pop()
        self.steps.append(step)
        _, name, _, run = step
        self.hold(name, run)

    def note(self, word):
        """Note under a word how many deeds stand."""
        if not is_name(word):
            raise BadName(word)
        self.noted[word] = len(self.steps)

    def notes(self):
        """All words that are notes, each with the number that it notes."""
        return tuple(sorted(self.noted.items()))

    def back(self, word):
        """Undo deeds, or do them again, until as many stand as a word notes."""
        if not isinstance(word, str) or word not in self.noted:
            raise NoNote(word)
        self.turn_to(self.noted[word])

    def turn_to(self, number):
        """Undo deeds, or do them again, until so many stand."""
        while len(self.steps) > number:
            self.undo()
        while len(self.steps) < number:
            self.redo()

    def all_deeds(self):
        """The deeds that stand, and those that were undone, that first which would be done again first."""
        return tuple([step[0] for step in self.steps]), tuple([step[0] for step in self.undone[::-1]])


def run_in(nets, name):
    """The run of the net with this name."""
    if not isinstance(name, str) or name not in nets:
        raise NoNet(name)
    return nets[name]


def run_ahead(nets, name):
    """The run of the net with this name, if it is ahead of a window."""
    run = run_in(nets, name)
    if run.tick % run.book.window != 0:
        raise Amid(run.tick)
    return run


def check_new(nets, name):
    """Raise BadName, Held unless a new net can have this name."""
    if not is_name(name):
        raise BadName(name)
    if name in nets:
        raise Held(name)


def do_net(nets, name, text):
    """What comes of the deed net: the name of a net, and its run behind the deed; so for each deed."""
    check_new(nets, name)
    return name, Run(Book(text))


def do_tick(nets, name, tick):
    """What comes of the deed tick."""
    run = run_in(nets, name).copy()
    run.go_on(tick)
    return name, run


def do_calm(nets, name, many):
    """What comes of the deed calm."""
    run = run_ahead(nets, name).copy()
    if not is_between(many, 1, MOST_CALM):
        raise BadNumber(many)
    for tick in calm(run.book) * many:
        run.go_on(tick)
    return name, run


def do_link(nets, name, one, other, room, times):
    """What comes of the deed link."""
    run = run_ahead(nets, name)
    book = run.book
    link = (one, other, room, times)
    pairs = [row[:2] for row in book.links]
    others = [row for row in book.links if row[:2] != (one, other)]
    if not is_link(link, book.window, book.goal, book.stations, others):
        raise BadLink(link)
    if (one, other) in pairs:
        links = exchanged(book.links, pairs.index((one, other)), link)
    elif len(pairs) == MOST_LINKS:
        raise TooMany(MOST_LINKS)
    else:
        links = (*book.links, link)
    return name, run_from(changed(book, book.stations, links), run.heaps)


def do_shut(nets, name, one, other):
    """What comes of the deed shut."""
    run = run_ahead(nets, name)
    number = link_number(run.book, one, other)
    return name, run_from(without_link(run.book, number), run.heaps)


def do_come(nets, name, station, level, put):
    """What comes of the deed come."""
    run = run_ahead(nets, name)
    book = run.book
    told = (station, level, put)
    names = [row[0] for row in book.stations]
    others = [row for row in book.stations if row[0] != station]
    if not is_station(told, book.goal, others):
        raise BadStation(told)
    if station in names:
        stations, heaps = exchanged(book.stations, names.index(station), told), run.heaps
    elif len(names) == MOST_STATIONS:
        raise TooMany(MOST_STATIONS)
    else:
        stations, heaps = (*book.stations, told), (*run.heaps, 0)
    return name, run_from(changed(book, stations, book.links), heaps)


def do_leave(nets, name, station):
    """What comes of the deed leave."""
    run = run_ahead(nets, name)
    number = station_number(run.book, station)
    if run.heaps[number] > 0:
        raise NotEmpty(run.heaps[number])
    if len(run.book) == 1:
        raise LastOne(station)
    heaps = (*run.heaps[:number], *run.heaps[number + 1:])
    return name, run_from(without_station(run.book, station), heaps)


def do_copy(nets, name, new):
    """What comes of the deed copy."""
    run = run_in(nets, name)
    check_new(nets, new)
    return new, run.copy()


def do_drop(nets, name):
    """What comes of the deed drop."""
    run_in(nets, name)
    return name, None


DEEDS = {
    "net": do_net, "tick": do_tick, "calm": do_calm, "link": do_link, "shut": do_shut, "come": do_come,
    "leave": do_leave, "copy": do_copy, "drop": do_drop,
}
# How many parts stand behind the word.
PARTS = {"net": 2, "tick": 2, "calm": 2, "link": 5, "shut": 3, "come": 4, "leave": 2, "copy": 2, "drop": 1}
# How many of these are names, ahead of numbers.
NAMES = {"calm": 1, "link": 3, "shut": 3, "come": 2, "leave": 2, "copy": 2, "drop": 1}


def outcome_of(nets, deed):
    """The name of the net that any value changes, if that is a deed, and its run behind it; None if it is dropped."""
    if not isinstance(deed, tuple) or len(deed) == 0:
        raise BadDeed(deed)
    word, parts = deed[0], deed[1:]
    if not isinstance(word, str) or word not in DEEDS or len(parts) != PARTS[word]:
        raise BadDeed(deed)
    action = DEEDS[word]
    return action(nets, *parts)


def desk_text(desk):
    """The text of a desk: how many deeds stand, the notes, and all deeds."""
    stand, undone = desk.all_deeds()
    lines = [f"stand {len(stand)}"]
    for word, number in desk.notes():
        lines.append(f"note {word} {number}")
    for deed in (*stand, *undone):
        lines.extend(lines_of(deed))
    return "\n".join(lines)


def lines_of(deed):
    """The lines of a deed."""
    word, name = deed[:2]
    if word == "net":
        rows = deed[2].split("\n")
        return [f"net {name} {len(rows)}", *rows]
    if word == "tick":
        return [" ".join([word, name, *[numbers_text(row) for row in deed[2]]])]
    return [" ".join([str(value) for value in deed])]


def numbers_text(row):
    """The word that tells a tuple of numbers."""
    return ",".join([str(number) for number in row]) if len(row) > 0 else "-"


def read_desk(text):
    """The desk with this text."""
    if not isinstance(text, str):
        raise BadDesk(0)
    lines = text.split("\n")
    stand = read_stand(lines[0])
    notes = read_notes(lines)
    desk = Desk()
    at = 1 + len(notes)
    while at < len(lines):
        deed, many = read_deed(lines, at)
        try:
            desk.lead(deed)
        except NetError:
            raise BadDesk(at + 1)
        at += many
    numbers = [stand, *[number for _, number in notes]]
    for line, number in enumerate(numbers, start=1):
        if number > len(desk.steps):
            raise BadDesk(line)
    desk.noted = dict(notes)
    desk.turn_to(stand)
    return desk


def read_stand(line):
    """How many deeds stand, as the first line tells."""
    words = line.split(" ")
    number = number_of(words[1]) if len(words) == 2 else None
    if words[0] != "stand" or number is None:
        raise BadDesk(1)
    return number


def read_notes(lines):
    """The notes, from the lines behind the first one, up to that which is none: no deed begins with this word."""
    notes = []
    for line in lines[1:]:
        words = line.split(" ")
        if len(words) != 3 or words[0] != "note" or not is_name(words[1]) or number_of(words[2]) is None:
            break
        if notes and words[1] <= notes[-1][0]:
            break
        notes.append((words[1], number_of(words[2])))
    return notes


def read_deed(lines, at):
    """What is to be the deed that begins at this place, and how many lines it has."""
    words = lines[at].split(" ")
    if words[0] == "net":
        return read_net(lines, at)
    if words[0] == "tick" and len(words) == 5:
        return ("tick", words[1], tuple([read_numbers(word) for word in words[2:]])), 1
    # A number that is none is read as None: so the deed is refused.
    return values_of(words, 1 + NAMES.get(words[0], 0)), 1


def read_net(lines, at):
    """The deed net that begins at this place, and how many lines it has."""
    words = lines[at].split(" ")
    many = number_of(words[2]) if len(words) == 3 else None
    if many is None or many == 0 or not is_name(words[1]):
        raise BadDesk(at + 1)
    if at + many >= len(lines):
        raise BadDesk(len(lines) + 1)
    return ("net", words[1], "\n".join(lines[at + 1:at + 1 + many])), 1 + many


def read_numbers(word):
    """The tuple of numbers that a word tells, None among them for what is no number."""
    return () if word == "-" else tuple([number_of(part) for part in word.split(",")])
