"""Wires: how each packet comes once, and in order, over channels that lose and double (section 11)."""

from downhillnet.errors import BadEvent, BadEvents, BadNumber, BadPackets, BadWord, NoWay
from downhillnet.values import is_between, is_row

MOST_PACKETS = 100
MOST_PACKET = 10 ** 6
MOST_ROOM = 20
MOST_EVENTS = 1000
# Up to these numbers it is looked for what goes wrong if an end forgets.
MOST_PACKETS_WRONG = 4
MOST_ROOM_WRONG = 2
ENDS = ("sender", "receiver")
CHANNELS = ("there", "back")
SAY = ("say",)
HEAR = ("hear",)
HEARD = ("heard",)
FORGET = ("forget",)


class Wire:
    """A sender and a receiver, and the channels there and back between them."""

    def __init__(self, packets, room):
        check_wire(packets, room)
        self.packets = packets
        self.room = room
        self.stand((0, (), (0, 0), (), ()))

    def stand(self, state):
        """Stand as a state tells: (known, got, bits, letters, answers)."""
        self.known, self.got, self.bits, self.letters, self.answers = state
        self.standing = (self.known, len(self.got), self.letters, self.answers)

    def go_on(self, event):
        """Do an event."""
        state = behind_event(self.packets, self.room, state_of(self), event)
        if state is None:
            raise BadEvent(event)
        self.stand(state)

    def copy(self):
        """A wire that stands alike, and goes on by itself."""
        other = Wire(self.packets, self.room)
        other.stand(state_of(self))
        return other


def are_packets(value, many):
    """Whether any value is packets, so many at most."""
    return isinstance(value, tuple) and len(value) <= many and is_row(value, len(value), 0, MOST_PACKET)


def check_wire(packets, room):
    """Raise BadPackets, BadNumber unless these are the packets and the room of a wire."""
    if not are_packets(packets, MOST_PACKETS):
        raise BadPackets(packets)
    if not is_between(room, 1, MOST_ROOM):
        raise BadNumber(room)


def state_of(wire):
    """The state of a wire: (known, got, bits, letters, answers)."""
    return wire.known, wire.got, wire.bits, wire.letters, wire.answers


def behind_event(packets, room, state, event):
    """The state behind any value, if that is an event that can stand in a state; None otherwise."""
    if not isinstance(event, tuple):
        return None
    if len(event) == 3:
        return behind_fault(room, state, event)
    if event == SAY:
        return behind_say(packets, room, state)
    if event == HEAR:
        return behind_hear(room, state)
    if event == HEARD:
        return behind_heard(packets, state)
    return None


def behind_say(packets, room, state):
    """The state when the sender has put a letter into there; None if it cannot."""
    known, got, bits, there, back = state
    if known == len(packets) or len(there) == room:
        return None
    return known, got, bits, (*there, (bits[0], packets[known])), back


def behind_hear(room, state):
    """The state when the receiver has taken a letter; None if it cannot."""
    known, got, bits, there, back = state
    if len(there) == 0:
        return None
    bit, packet = there[0]
    if bit == bits[1]:
        got = (*got, packet)
        bits = (bits[0], 1 - bit)
    if len(back) < room:
        back = (*back, bit)
    return known, got, bits, there[1:], back


def behind_heard(packets, state):
    """The state when the sender has taken an answer; None if it cannot."""
    known, got, bits, there, back = state
    if len(back) == 0:
        return None
    if back[0] == bits[0] and known < len(packets):
        known += 1
        bits = (1 - bits[0], bits[1])
    return known, got, bits, there, back[1:]


def behind_fault(room, state, event):
    """The state when a channel has lost or doubled something; None if that cannot be."""
    word, channel, place = event
    known, got, bits, there, back = state
    if channel not in CHANNELS:
        return None
    row = there if channel == "there" else back
    if not is_between(place, 0, len(row) - 1):
        return None
    if word == "lose":
        row = (*row[:place], *row[place + 1:])
    elif word == "double" and len(row) < room:
        row = (*row[:place], row[place], *row[place:])
    else:
        return None
    return (known, got, bits, row, back) if channel == "there" else (known, got, bits, there, row)


def behind_forget(state, who):
    """The state when an end has the bit 0, or waits for it, from now on."""
    known, got, bits, there, back = state
    bits = (0, bits[1]) if who == "sender" else (bits[0], 0)
    return known, got, bits, there, back


def played_wire(packets, room, events):
    """The wire behind these events."""
    wire = Wire(packets, room)
    if not isinstance(events, tuple) or len(events) > MOST_EVENTS:
        raise BadEvents(None)
    for number, event in enumerate(events):
        state = behind_event(packets, room, state_of(wire), event)
        if state is None:
            raise BadEvents(number)
        wire.stand(state)
    return wire


def all_behind(packets, room, state):
    """All events that can stand in a state, each with the state behind it."""
    events = [SAY, HEAR, HEARD]
    for channel, row in zip(CHANNELS, state[3:]):
        for place in range(len(row)):
            events.extend([("lose", channel, place), ("double", channel, place)])
    pairs = [(event, behind_event(packets, room, state, event)) for event in events]
    return [pair for pair in pairs if pair[1] is not None]


def events_now(wire):
    """All events that can stand now."""
    return tuple([event for event, _ in all_behind(wire.packets, wire.room, state_of(wire))])


def letter_of(packets, number):
    """The letter with which the packet with this number is sent."""
    return number % 2, packets[number]


def can_be(packets, room, value):
    """Whether any value is the standing of a wire with these packets and this room behind some events."""
    check_wire(packets, room)
    if not isinstance(value, tuple) or len(value) != 4:
        return False
    known, many, there, back = value
    if not is_between(known, 0, len(packets)) or not is_between(many, known, min(known + 1, len(packets))):
        return False
    if not are_letters(there, room) or not isinstance(back, tuple) or len(back) > room:
        return False
    if not is_row(back, len(back), 0, 1):
        return False
    # What was said ahead of the letters that are said now is of the packet ahead: channels do not exchange.
    older = letter_of(packets, known - 1) if known > 0 else None
    newer = letter_of(packets, known) if known < len(packets) else None
    old_bit = older[0] if known > 0 else None
    if many > known:
        return is_row_of(there, newer, newer) and is_row_of(back, old_bit, newer[0])
    if not is_row_of(there, older, newer) or not is_row_of(back, old_bit, old_bit):
        return False
    # With room for one, nothing lay behind the answer that was heard, and the next one comes of the older letter.
    return room > 1 or len(back) == 0 or there != (older,)


def are_letters(value, room):
    """Whether any value is a tuple of pairs of integers from 0 on, for which there is room."""
    if not isinstance(value, tuple) or len(value) > room:
        return False
    return all([is_row(letter, 2, 0, MOST_PACKET) for letter in value])


def is_row_of(row, first, later):
    """Whether a row has first nothing but the one, then nothing but the other, any number of each; None is nothing."""
    many = 0
    while many < len(row) and row[many] == first:
        many += 1
    return all([part == later for part in row[many:]])


def way_to(packets, room, standing):
    """Events behind which a new wire has this standing."""
    if not can_be(packets, room, standing):
        raise NoWay(standing)
    known, many, there, back = standing
    older = [letter for letter in there if letter[0] != known % 2]
    answers = [bit for bit in back if bit != known % 2]
    newer = len(there) - len(older)
    if many == known:
        return (*way_to_known(room, known, len(older), len(answers)), *[SAY] * newer)
    events = [*way_to_known(room, known, 0, len(answers)), SAY, HEAR]
    fresh = len(back) - len(answers)
    # With a full channel the answer is lost; otherwise it is the last one.
    if len(answers) < room:
        events.extend(copies(len(answers), fresh))
    return (*events, *[SAY] * newer)


def way_to_known(room, known, older, answers):
    """Events behind which the sender knows of all that were got, with so many letters and answers of the last one."""
    if known == 0:
        return []
    events = [SAY, HEAR, HEARD] * (known - 1) + [SAY, HEAR] + [SAY] * older
    if answers == 0:
        return [*events, HEARD]
    if room == 1:
        # The answer is that to a letter that comes once more.
        return [*events, SAY, HEARD, HEAR]
    return [*events, ("double", "back", 0), HEARD, *copies(0, answers)]


def copies(place, many):
    """Events by which the answer at this place, the last one, stands there so many times."""
    return [("lose", "back", place)] if many == 0 else [("double", "back", place)] * (many - 1)


def behind_all(wire, events):
    """A wire that stands as this one does behind these events."""
    other = wire.copy()
    for event in events:
        other.go_on(event)
    return other


def calm_round(wire):
    """The events of a round in which nothing is lost or doubled."""
    events = [HEAR] * len(wire.letters)
    events.extend([HEARD] * len(behind_all(wire, events).answers))
    if behind_all(wire, events).known < len(wire.packets):
        events.extend([SAY, HEAR, HEARD])
    return tuple(events)


def end_of(wire):
    """Events, as few as can be, behind which the sender knows of all packets."""
    play = wire.copy()
    events = []
    while play.known < len(play.packets):
        event = next_to_end(play)
        play.go_on(event)
        events.append(event)
    return tuple(events)


def next_to_end(wire):
    """What comes next so that the sender soonest knows of one more packet."""
    # Nothing gets past what lies ahead of it in its channel: so each answer, and each letter, has to be taken.
    if len(wire.answers) > 0:
        return HEARD
    if len(wire.letters) == 0:
        return SAY
    # To hear a letter that was heard already would only bring one more answer that has to be taken.
    return HEAR if wire.letters[0][0] == wire.bits[0] else ("lose", "there", 0)


def shows_end(wire, value):
    """Whether any value is what end_of may return."""
    if not isinstance(value, tuple) or len(value) != len(end_of(wire)):
        return False
    state = state_of(wire)
    for event in value:
        state = behind_event(wire.packets, wire.room, state, event)
        if state is None:
            return False
    return state[0] == len(wire.packets)


def check_wrong(packets, room, who):
    """Raise BadPackets, BadNumber, BadWord unless it can be looked for what goes wrong if this end forgets."""
    if not are_packets(packets, MOST_PACKETS_WRONG):
        raise BadPackets(packets)
    if not is_between(room, 1, MOST_ROOM_WRONG):
        raise BadNumber(room)
    if who not in ENDS:
        raise BadWord(who)


def is_wrong(packets, state):
    """Whether what was got is no beginning of packets."""
    got = state[1]
    return got != packets[:len(got)]


def least_wrong(packets, room, who):
    """Events, as few as can be, behind which what was got is no beginning of packets; None if there are none."""
    check_wrong(packets, room, who)
    first = (0, (), (0, 0), (), ())
    found = {first: None}
    layer = [first]
    while layer:
        later = []
        for state in layer:
            for event, other in [(FORGET, behind_forget(state, who)), *all_behind(packets, room, state)]:
                if other in found:
                    continue
                found[other] = (state, event)
                later.append(other)
                if is_wrong(packets, other):
                    return way_found(found, other)
        layer = later
    return None


def way_found(found, state):
    """The events that lead to a state, each state being found with the one ahead of it and the event between."""
    events = []
    while found[state] is not None:
        state, event = found[state]
        events.append(event)
    return tuple(events[::-1])


def shows_least_wrong(packets, room, who, value):
    """Whether any value is what least_wrong may return."""
    best = least_wrong(packets, room, who)
    if best is None:
        return value is None
    if not isinstance(value, tuple) or len(value) != len(best):
        return False
    state = (0, (), (0, 0), (), ())
    for event in value:
        state = behind_forget(state, who) if event == FORGET else behind_event(packets, room, state, event)
        if state is None:
            return False
    return is_wrong(packets, state)
