"""The errors (section 16 of the document)."""


class NetError(ValueError):
    """What all errors of the package derive from."""

    def __init__(self, value):
        self.value = value


class BadBook(NetError):
    """A text that is not that of a book."""


class BadNumber(NetError):
    """What is no integer as it is asked for."""


class BadName(NetError):
    """What is no name as it is asked for."""


class BadStations(NetError):
    """What cannot be the stations of a book."""


class BadLinks(NetError):
    """What cannot be the links of a book."""


class NoStation(NetError):
    """What is not the name of a station."""


class NoLink(NetError):
    """What is no link of a book."""


class BadLot(NetError):
    """What is no lot of a book."""


class BadTicks(NetError):
    """What is no row of ticks as it is asked for."""


class TooMany(NetError):
    """More than there may be."""


class BadTick(NetError):
    """What is no tick for a book."""


class BadNames(NetError):
    """What is no ascending tuple of names of stations."""


class BadHeaps(NetError):
    """What cannot be the heaps of a book."""


class NoFlow(NetError):
    """A book that has a cut."""


class BadMoves(NetError):
    """What is no row of moves."""


class BadCut(NetError):
    """What is no cut of a book."""


class BadLevels(NetError):
    """What cannot be the levels of a book."""


class NoWay(NetError):
    """What no way leads from, or to."""


class NotHoming(NetError):
    """A book that is not homing."""


class BadPackets(NetError):
    """What cannot be the packets of a wire."""


class BadEvent(NetError):
    """What is no event that can stand now."""


class BadEvents(NetError):
    """What is no row of events."""


class BadWord(NetError):
    """What is none of the words that are asked for."""


class Unfit(NetError):
    """Books that do not fit."""


class NoDoor(NetError):
    """A goal at which two books cannot be joined."""


class TooFew(NetError):
    """Fewer than there have to be."""


class Held(NetError):
    """A name that another one has."""


class BadLink(NetError):
    """What cannot be a link of a book."""


class BadStation(NetError):
    """What cannot be a station of a book."""


class NotPart(NetError):
    """What is no part of a book."""


class BadRule(NetError):
    """What is none of the rules."""


class BadDeed(NetError):
    """What is no deed."""


class NoNet(NetError):
    """What is not the name of a net."""


class Amid(NetError):
    """A tick amid a window."""


class NotEmpty(NetError):
    """A station where packets lie."""


class LastOne(NetError):
    """The only station of a book."""


class NothingToUndo(NetError):
    """No deed stands."""


class NothingToRedo(NetError):
    """No deed is undone."""


class NoNote(NetError):
    """What is no note."""


class BadDesk(NetError):
    """A text that is not that of a desk."""
