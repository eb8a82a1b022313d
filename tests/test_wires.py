import itertools
import random
import unittest

from downhillnet.books import Book
from downhillnet.errors import BadEvent, BadEvents, BadNumber, BadPackets, BadWord, NoWay
from downhillnet.wires import (
    Wire, calm_round, can_be, end_of, events_now, least_wrong, played_wire, shows_end, shows_least_wrong, way_to,
)
from tests.tools import TEXT, Case, any_values, nested

SAY, HEAR, HEARD, FORGET = ("say",), ("hear",), ("heard",), ("forget",)
BAD_PACKETS = [[1], (True,), (1, False), (-1,), (10 ** 6 + 1,), (1, None), ("1",), ((1,),), 3, None, (0,) * 101, {1: 1}]
BAD_EVENTS = [
    [], (), "say", ["say"], ("say", 1), ("Say",), ("forget",), ("say", "hear"), (("say",),), ("lose", "there"),
    ("lose", "there", True), ("lose", "there", False), ("double", "back", "0"), ("lose", "their", 0), ("lose", None, 0),
    ("lose", ["there"], 0), ("lose", "there", -1), ("double", "there", 0, 0), ("drop", "there", 0), (True,), (None,),
    ("lose", "there", None), (["lose"], "there", 0), ("lose", "there", (0,)), {"say": 1}, ("hear", "there", 0),
]


class Model:
    """A wire as section 11 tells it, word by word; an end can forget."""

    def __init__(self, packets, room):
        self.packets, self.room = packets, room
        self.known, self.got, self.bit, self.waits = 0, [], 0, 0
        self.there, self.back = [], []

    def copy(self):
        other = Model(self.packets, self.room)
        other.known, other.got, other.bit, other.waits = self.known, list(self.got), self.bit, self.waits
        other.there, other.back = list(self.there), list(self.back)
        return other

    def all_events(self):
        events = [SAY, HEAR, HEARD]
        for channel, row in (("there", self.there), ("back", self.back)):
            for place in range(len(row)):
                events += [("lose", channel, place), ("double", channel, place)]
        return events

    def can(self, event):
        if event == SAY:
            return self.known < len(self.packets) and len(self.there) < self.room
        if event == HEAR:
            return len(self.there) > 0
        if event == HEARD:
            return len(self.back) > 0
        row = {"there": self.there, "back": self.back}[event[1]]
        return event[0] == "lose" or len(row) < self.room

    def do(self, event):
        if event == SAY:
            self.there.append((self.bit, self.packets[self.known]))
        elif event == HEAR:
            bit, packet = self.there.pop(0)
            if bit == self.waits:
                self.got.append(packet)
                self.waits = 1 - self.waits
            if len(self.back) < self.room:
                self.back.append(bit)
        elif event == HEARD:
            bit = self.back.pop(0)
            if bit == self.bit and self.known < len(self.packets):
                self.known += 1
                self.bit = 1 - self.bit
        else:
            row = {"there": self.there, "back": self.back}[event[1]]
            if event[0] == "lose":
                del row[event[2]]
            else:
                row.insert(event[2], row[event[2]])

    def forget(self, who):
        if who == "sender":
            self.bit = 0
        else:
            self.waits = 0

    def now(self):
        return [event for event in self.all_events() if self.can(event)]

    def key(self):
        return self.known, tuple(self.got), self.bit, self.waits, tuple(self.there), tuple(self.back)

    def standing(self):
        return self.known, len(self.got), tuple(self.there), tuple(self.back)


def all_models(packets, room):
    """All wires that can come about, by their keys, and for each one the keys of those that can come next."""
    first = Model(packets, room)
    found, nexts, rows = {first.key(): first}, {}, [first]
    for model in rows:
        nexts[model.key()] = []
        for event in model.now():
            other = model.copy()
            other.do(event)
            nexts[model.key()].append(other.key())
            if other.key() not in found:
                found[other.key()] = other
                rows.append(other)
    return found, nexts


def least_ends(packets, found, nexts):
    """For each key the fewest events behind which the sender knows of all packets."""
    least = {key: 0 for key in found if key[0] == len(packets)}
    ahead = {}
    for key, others in nexts.items():
        for other in others:
            ahead.setdefault(other, []).append(key)
    rows = list(least)
    for key in rows:
        for other in ahead.get(key, []):
            if other not in least:
                least[other] = least[key] + 1
                rows.append(other)
    return least


def told_wrong(packets, room, who):
    """The fewest events behind which what was got is no beginning of packets; None if that never comes."""
    first = Model(packets, room)
    found, rows = {first.key(): 0}, [first]
    for model in rows:
        for event in [FORGET, *model.now()]:
            other = model.copy()
            if event == FORGET:
                other.forget(who)
            else:
                other.do(event)
            if other.key() in found:
                continue
            found[other.key()] = found[model.key()] + 1
            if tuple(other.got) != packets[:len(other.got)]:
                return found[other.key()]
            rows.append(other)
    return None


def story(wire):
    """All that a wire tells."""
    return (wire.packets, wire.room, wire.known, wire.got, wire.bits, wire.letters, wire.answers, wire.standing)


class Events(Case):

    def test_a_wire_at_the_beginning(self):
        wire = Wire((7, 7, 9), 2)
        self.same(story(wire), ((7, 7, 9), 2, 0, (), (0, 0), (), (), (0, 0, (), ())))
        self.same(events_now(wire), (SAY,))
        self.same(events_now(Wire((), 1)), ())
        self.assertLessEqual(
            {"packets", "room", "known", "got", "bits", "letters", "answers", "standing"}, set(vars(wire)))

    def test_each_event_beside_a_model(self):
        chance = random.Random(1)
        for _ in range(150):
            packets = tuple(chance.choice([3, 3, 5, 0]) for _ in range(chance.randint(0, 4)))
            room = chance.randint(1, 4)
            wire, model, events = Wire(packets, room), Model(packets, room), []
            for _ in range(60):
                self.same(events_now(wire), tuple(model.now()))
                refused = [event for event in model.all_events() if not model.can(event)]
                for event in [*refused, *chance.sample(BAD_EVENTS, 3)]:
                    self.refused(BadEvent, event, wire.go_on, event)
                if not model.now():
                    break
                events.append(chance.choice(model.now()))
                self.assertIsNone(wire.go_on(events[-1]))
                model.do(events[-1])
                self.as_model(wire, model)
                self.promised(wire)
            self.same(story(played_wire(packets, room, tuple(events))), story(wire))

    def as_model(self, wire, model):
        self.same(story(wire), (
            model.packets, model.room, model.known, tuple(model.got), (model.bit, model.waits), tuple(model.there),
            tuple(model.back), model.standing()))

    def promised(self, wire):
        """What was got is a beginning of packets; the sender knows of as many, or of one less."""
        self.assertEqual(wire.got, wire.packets[:len(wire.got)])
        self.assertIn(len(wire.got) - wire.known, (0, 1))

    def test_at_empty_and_at_full_channels(self):
        wire = Wire((7, 8), 2)
        for event in (HEAR, HEARD, ("lose", "there", 0), ("double", "back", 0)):
            self.refused(BadEvent, event, wire.go_on, event)
        for event in (SAY, SAY):
            wire.go_on(event)
        for event in (SAY, ("double", "there", 0), ("double", "there", 1), ("lose", "there", 2)):
            self.refused(BadEvent, event, wire.go_on, event)
        self.same(wire.letters, ((0, 7), (0, 7)))

    def test_an_answer_is_lost_at_a_full_channel(self):
        wire = played_wire((7, 8), 1, (SAY, HEAR, SAY, HEAR))
        self.same(wire.standing, (0, 1, (), (0,)))
        wire = played_wire((7, 8), 1, (SAY, HEAR, SAY, HEARD, HEAR, SAY, HEAR))
        self.same([wire.standing, wire.got], [(1, 2, (), (0,)), (7, 8)])

    def test_losses_and_doubles_at_each_place(self):
        events = (SAY, HEAR, SAY, SAY, HEARD, SAY)
        for place, letters in enumerate([((0, 7), (1, 8)), ((0, 7), (1, 8)), ((0, 7), (0, 7))]):
            wire = played_wire((7, 8), 4, events)
            self.same(wire.letters, ((0, 7), (0, 7), (1, 8)))
            wire.go_on(("lose", "there", place))
            self.same(wire.letters, letters)
        for place, letters in enumerate([(0, 0, 0, 1), (0, 0, 0, 1), (0, 0, 1, 1)]):
            wire = played_wire((7, 8), 4, events)
            wire.go_on(("double", "there", place))
            self.same([letter[0] for letter in wire.letters], list(letters))
        events = (SAY, SAY, HEAR, HEAR, HEARD, SAY, HEAR)
        for place, answers in enumerate([(1,), (0,)]):
            wire = played_wire((7, 8), 3, events)
            self.same(wire.answers, (0, 1))
            wire.go_on(("lose", "back", place))
            self.same(wire.answers, answers)
        for place, answers in enumerate([(0, 0, 1), (0, 1, 1)]):
            wire = played_wire((7, 8), 3, events)
            wire.go_on(("double", "back", place))
            self.same(wire.answers, answers)

    def test_heard_when_nothing_is_left_to_know(self):
        wire = played_wire((7,), 2, (SAY, SAY, HEAR, HEAR, HEARD))
        self.same([wire.known, wire.bits, wire.answers], [1, (1, 1), (0,)])
        wire.go_on(HEARD)
        self.same([wire.known, wire.bits, wire.answers], [1, (1, 1), ()])
        self.refused(BadEvent, SAY, wire.go_on, SAY)

    def test_two_packets_that_are_alike_come_as_two(self):
        wire = played_wire((7, 7), 2, (SAY, ("double", "there", 0), HEAR, HEAR, HEARD, SAY, HEARD, HEAR, HEARD))
        self.same([wire.got, wire.known, wire.bits], [(7, 7), 2, (0, 0)])

    def test_events_of_any_kind(self):
        wire = played_wire((7, 8), 2, (SAY, HEAR, SAY))
        told = story(wire)
        for value in [*BAD_EVENTS, *any_values(), 0, "say", nested(60), ("lose", nested(58), 0), ("lose", Book(TEXT), 0)]:
            with self.assertRaises(BadEvent) as caught:
                wire.go_on(value)
            self.assertIs(caught.exception.value, value)
        self.same(story(wire), told)

    def test_a_copy_goes_on_alone(self):
        wire = played_wire((7, 8), 2, (SAY, HEAR, SAY))
        told = story(wire)
        other = wire.copy()
        self.same(story(other), told)
        other.go_on(HEARD)
        self.same([story(wire), other.known], [told, 1])
        wire.go_on(HEAR)
        self.same([other.answers, other.letters, wire.answers], [(), ((0, 7),), (0, 0)])

    def test_the_order_of_events_now(self):
        wire = played_wire((7, 8), 3, (SAY, SAY, SAY, HEAR))
        self.same(events_now(wire), (
            SAY, HEAR, HEARD, ("lose", "there", 0), ("double", "there", 0), ("lose", "there", 1), ("double", "there", 1),
            ("lose", "back", 0), ("double", "back", 0)))
        wire.go_on(SAY)
        self.same(events_now(wire), (
            HEAR, HEARD, ("lose", "there", 0), ("lose", "there", 1), ("lose", "there", 2), ("lose", "back", 0),
            ("double", "back", 0)))


class Refused(Case):

    def calls(self):
        return (
            Wire, lambda packets, room: played_wire(packets, room, None), lambda packets, room: can_be(packets, room, None),
            lambda packets, room: way_to(packets, room, None),
        )

    def test_bad_packets_ahead_of_bad_numbers(self):
        for value in [*BAD_PACKETS, *[value for value in any_values() if value != ()]]:
            for call in self.calls():
                with self.assertRaises(BadPackets) as caught:
                    call(value, None)
                self.assertIs(caught.exception.value, value)

    def test_bad_numbers(self):
        for value in [0, 21, -1, True, "1", None, (1,), *any_values()]:
            for call in self.calls():
                with self.assertRaises(BadNumber) as caught:
                    call((1,), value)
                self.assertIs(caught.exception.value, value)

    def test_at_the_bounds(self):
        for packets, room in (((), 1), ((0, 10 ** 6), 20), ((5,) * 100, 20)):
            self.same([Wire(packets, room).packets, Wire(packets, room).room], [packets, room])

    def test_bad_rows_of_events(self):
        for value in [[SAY], "say", {SAY: 1}, 3, None, True, (SAY,) * 1001, (None,) * 1001]:
            self.refused(BadEvents, None, played_wire, (7,), 20, value)
        self.refused(BadEvents, 20, played_wire, (7,), 20, (SAY,) * 1000)
        for number in (0, 1, 5):
            for event in (HEAR, "say", None, ["say"], FORGET, ("say", 1)):
                ahead = (SAY, HEAR, HEARD, SAY, HEAR)[:number]
                if not (event == HEAR and number == 1):
                    self.refused(BadEvents, number, played_wire, (7, 8, 9), 2, (*ahead, event, None))
        self.same(played_wire((7,), 1, ()).standing, (0, 0, (), ()))

    def test_a_thousand_events(self):
        events = (SAY, ("lose", "there", 0)) * 500
        self.same(played_wire((7,), 1, events).standing, (0, 0, (), ()))
        self.refused(BadEvents, None, played_wire, (7,), 1, (*events, SAY))


class Standings(Case):
    SMALL = [((), 1), ((), 2), ((7,), 1), ((7,), 2), ((7, 8), 1), ((7, 8), 2), ((7, 7), 1), ((7, 7), 2), ((7, 8), 3)]

    def test_beside_a_going_through_all(self):
        for packets, room in self.SMALL:
            found, _ = all_models(packets, room)
            told = {model.standing() for model in found.values()}
            letters = [(bit, packet) for bit in (0, 1) for packet in sorted({*packets, 9})]
            if room == 3:
                letters = [(0, 7), (1, 8)]
            rows = [row for many in range(room + 2) for row in itertools.product(letters, repeat=many)]
            answers = [row for many in range(room + 2) for row in itertools.product((0, 1), repeat=many)]
            numbers = range(len(packets) + 2)
            for value in itertools.product(numbers, numbers, rows, answers):
                self.assertIs(can_be(packets, room, value), value in told)
            for value in told:
                self.way(packets, room, value)

    def test_more_packets_beside_a_going_through_all(self):
        for packets, room in (((1, 2, 3), 2), ((5, 6, 5), 1), ((5, 5, 5), 2), ((1, 2, 3, 4), 1), ((1, 2), 4)):
            found, _ = all_models(packets, room)
            told = {model.standing() for model in found.values()}
            for value in told:
                self.assertIs(can_be(packets, room, value), True)
                self.way(packets, room, value)
                for other in self.near(packets, value):
                    self.assertIs(can_be(packets, room, other), other in told)

    def near(self, packets, value):
        """Values that are near to a standing."""
        known, many, there, back = value
        rows = [(known + 1, many, there, back), (known, many + 1, there, back), (known + 1, many + 1, there, back)]
        rows += [(known, many, there[::-1], back), (known, many, there, back[::-1]), (known, many, there[1:], back)]
        rows += [(known, many, (*there, (bit, packet)), back) for bit in (0, 1) for packet in packets]
        rows += [(known, many, ((bit, packet), *there), back) for bit in (0, 1) for packet in packets]
        rows += [(known, many, there, (*back, bit)) for bit in (0, 1)]
        rows += [(known, many, there, (bit, *back)) for bit in (0, 1)]
        return rows

    def way(self, packets, room, value):
        events = way_to(packets, room, value)
        self.assertIs(events.__class__, tuple)
        self.assertLessEqual(len(events), 1000)
        self.same(played_wire(packets, room, events).standing, value)

    def test_more_packets_and_room(self):
        chance = random.Random(2)
        for _ in range(60):
            packets = tuple(chance.randint(0, 3) for _ in range(chance.choice([5, 30, 100])))
            room = chance.choice([1, 2, 3, 20])
            wire = Wire(packets, room)
            for _ in range(700):
                # Mostly on, so that it comes far.
                events = events_now(wire)
                if not events:
                    break
                wire.go_on(chance.choice(events[:3]) if chance.random() < 0.9 else chance.choice(events))
            self.assertIs(can_be(packets, room, wire.standing), True)
            self.way(packets, room, wire.standing)

    def test_the_farthest_standings(self):
        packets = tuple(range(100))
        for value in [
            (100, 100, ((1, 99),) * 20, (1,) * 20), (99, 100, ((1, 99),) * 20, (0,) * 20), (99, 100, (), (0,) * 19 + (1,)),
            (99, 100, ((1, 99),) * 20, (1,) * 20), (99, 99, ((0, 98),) * 7 + ((1, 99),) * 13, (0,) * 20),
            (98, 99, ((0, 98),) * 20, (1,) * 10 + (0,) * 10), (0, 1, ((0, 0),) * 20, (0,) * 20), (0, 0, ((0, 0),) * 20, ()),
        ]:
            self.assertIs(can_be(packets, 20, value), True)
            self.way(packets, 20, value)

    def test_standings_that_cannot_be(self):
        packets = (7, 7, 9)
        right = (1, 1, ((0, 7), (1, 7)), (0,))
        self.assertIs(can_be(packets, 2, right), True)
        wrong = [
            (1, 1, ((1, 7), (0, 7)), ()), (0, 2, (), ()), (2, 1, (), ()), (-1, 0, (), ()), (3, 4, (), ()), (4, 4, (), ()),
            (1, 1, ((0, 7),) * 3, ()), (1, 1, (), (0,) * 3), (1, 1, (), (1,)), (0, 0, (), (0,)), (0, 0, (), (1,)),
            (0, 0, ((1, 7),), ()), (1, 2, ((0, 7),), ()), (1, 2, (), (1, 0)), (2, 2, ((0, 7),), ()), (2, 2, ((1, 9),), ()),
            (3, 3, ((1, 9),), ()), (3, 3, (), (1,)), (1, 1, ((2, 7),), ()), (1, 1, ((-1, 7),), ()), (1, 1, (), (2,)),
        ]
        for value in wrong:
            self.refused_by_both(packets, 2, value)

    def test_values_of_other_kinds(self):
        packets = (1, 1, 9)
        for value in [
            (True, 1, (), ()), (1, True, (), ()), (False, 0, (), ()), (0, 0, ((False, 1),), ()), (0, 0, ((0, True),), ()),
            (0, 1, (), (False,)), (1, 2, (), (True,)), (1, 1, [(0, 1)], ()), (1, 1, ([0, 1],), ()), (1, 1, (), [0]),
            [1, 1, (), ()], (1, 1, ()), (1, 1, (), (), ()), (1, 1, ((0,),), ()), (1, 1, ((0, 1, 1),), ()), (1, 1, (None,), ()),
            (1, 1, ("01",), ()), (1, 1, None, ()), (1, 1, (), None), ("1", 1, (), ()), (None, None, (), ()), (1, 1, (), "0"),
            Wire(packets, 2), *any_values(),
        ]:
            self.refused_by_both(packets, 2, value)
        self.assertIs(can_be(packets, 2, (1, 1, ((0, 1),), (0,))), True)

    def refused_by_both(self, packets, room, value):
        self.assertIs(can_be(packets, room, value), False)
        with self.assertRaises(NoWay) as caught:
            way_to(packets, room, value)
        self.assertIs(caught.exception.value, value)

    def test_with_room_for_one(self):
        for value, right in (
            ((1, 1, ((0, 7),), ()), True), ((1, 1, (), (0,)), True), ((1, 1, ((0, 7),), (0,)), False),
            ((1, 1, ((1, 8),), (0,)), True), ((1, 2, ((1, 8),), (0,)), True), ((1, 2, ((1, 8),), (1,)), True),
        ):
            self.assertIs(can_be((7, 8), 1, value), right)
            if right:
                self.way((7, 8), 1, value)


class Ends(Case):

    def test_calm_rounds(self):
        for packets, room in (((), 1), ((7,), 2), ((7, 8), 2), ((7, 7, 8), 1)):
            for model in all_models(packets, room)[0].values():
                wire = played_wire(packets, room, way_to(packets, room, model.standing()))
                events = calm_round(wire)
                told = self.told_round(model.copy())
                self.same(events, tuple(told))
                known = wire.known
                for event in events:
                    wire.go_on(event)
                self.assertTrue(wire.known > known or wire.known == len(packets))

    def told_round(self, model):
        """The events of a calm round, word by word."""
        events = []
        for event, row in ((HEAR, model.there), (HEARD, model.back)):
            while row:
                events.append(event)
                model.do(event)
        if model.known < len(model.packets):
            events += [SAY, HEAR, HEARD]
        return events

    def test_a_full_channel_in_a_calm_round(self):
        wire = played_wire((7, 8), 2, (SAY, SAY, HEAR, HEAR, SAY, SAY))
        self.same(calm_round(wire), (HEAR, HEAR, HEARD, HEARD, SAY, HEAR, HEARD))

    def test_ends_with_the_fewest_events(self):
        for packets, room in (((), 1), ((7,), 1), ((7,), 2), ((7, 8), 1), ((7, 8), 2), ((7, 7), 2), ((7, 8, 9), 2), ((7,), 3)):
            found, nexts = all_models(packets, room)
            least = least_ends(packets, found, nexts)
            for key, model in found.items():
                wire = played_wire(packets, room, way_to(packets, room, model.standing()))
                told = story(wire)
                events = end_of(wire)
                self.assertEqual((events.__class__, len(events)), (tuple, least[key]))
                self.assertIs(shows_end(wire, events), True)
                self.same(story(wire), told)
                for event in events:
                    wire.go_on(event)
                self.assertEqual(wire.known, len(packets))

    def test_all_rows_of_that_length(self):
        for packets, room in (((7,), 1), ((7, 8), 1), ((7,), 2)):
            for model in all_models(packets, room)[0].values():
                wire = played_wire(packets, room, way_to(packets, room, model.standing()))
                many = len(end_of(wire))
                for length in range(max(0, many - 1), many + 2):
                    if length <= 4:
                        self.all_rows(wire, model, length, many)

    def all_rows(self, wire, model, length, many):
        """Of all rows of so many events just those are shown that are ends with the fewest events."""
        events = [SAY, HEAR, HEARD, *[(word, channel, 0) for word in ("lose", "double") for channel in ("there", "back")]]
        for row in itertools.product(events, repeat=length):
            other, right = model.copy(), length == many
            for event in row:
                right = right and event in other.now()
                if right:
                    other.do(event)
            self.assertIs(shows_end(wire, row), right and other.known == len(model.packets))

    def test_other_values(self):
        wire = played_wire((7, 7, 9), 2, (SAY, ("double", "there", 0), HEAR, HEAR, HEARD))
        events = end_of(wire)
        self.same(len(events), 7)
        for value in [
            list(events), events[:-1], events[1:], (*events, SAY), (*events[:-1], ["heard"]), (*events[:-1], "heard"),
            (*events[:-1], HEAR), (*events[:-1], FORGET), (None,) * 7, (FORGET, *events), calm_round(wire), "aaaaaaa",
            *any_values(),
        ]:
            self.assertIs(shows_end(wire, value), False)
        self.assertIs(shows_end(wire, (("lose", "back", 0), *(SAY, HEAR, HEARD) * 2)), True)
        self.same([end_of(Wire((), 2)), shows_end(Wire((), 2), ()), shows_end(Wire((), 2), (HEAR,))], [(), True, False])

    def test_the_longest_end(self):
        wire = Wire(tuple(range(100)), 20)
        self.same([len(end_of(wire)), shows_end(wire, (SAY, HEAR, HEARD) * 100)], [300, True])
        for _ in range(20):
            wire.go_on(SAY)
        self.same(len(end_of(wire)), 299 + 19)


class Wrong(Case):
    PACKETS = [(), (3,), (3, 3), (3, 5), (3, 3, 3), (3, 5, 3), (3, 3, 5), (5, 3, 3, 3), (3, 3, 3, 3), (1, 2, 3, 4), (3, 5, 3, 5)]

    def test_beside_a_going_through_all(self):
        for packets in self.PACKETS:
            for room in (1, 2):
                for who in ("sender", "receiver"):
                    told = told_wrong(packets, room, who)
                    events = least_wrong(packets, room, who)
                    self.assertEqual(None if events is None else len(events), told)
                    self.assertIs(shows_least_wrong(packets, room, who, events), True)
                    self.near(packets, room, who, events)

    def near(self, packets, room, who, events):
        """What is near to a right one is not shown, unless going by it tells that it is right."""
        for value in (None, (), (FORGET,), (SAY, HEAR, FORGET, SAY, HEAR)):
            right = value == events or (events is not None and value is not None and len(value) == len(events)
                                        and self.goes_wrong(packets, room, who, value))
            self.assertIs(shows_least_wrong(packets, room, who, value), right)
        for at in range(len(events or ())):
            for event in (SAY, HEAR, HEARD, FORGET, ("double", "there", 0), ("lose", "back", 0), ("double", "back", 0)):
                value = (*events[:at], event, *events[at + 1:])
                self.assertIs(
                    shows_least_wrong(packets, room, who, value), self.goes_wrong(packets, room, who, value))

    def goes_wrong(self, packets, room, who, events):
        """Whether behind these events what was got is no beginning of packets, word by word."""
        model = Model(packets, room)
        for event in events:
            if event == FORGET:
                model.forget(who)
            elif event in model.now():
                model.do(event)
            else:
                return False
        return tuple(model.got) != packets[:len(model.got)]

    def test_a_receiver_that_forgets_gets_a_packet_twice(self):
        events = (SAY, ("double", "there", 0), HEAR, FORGET, HEAR)
        self.assertIs(shows_least_wrong((3, 5), 2, "receiver", events), True)
        self.assertIs(shows_least_wrong((3, 5), 1, "receiver", events), False)
        self.assertIs(shows_least_wrong((3, 5), 2, "sender", events), False)
        self.assertIs(shows_least_wrong((3,), 2, "receiver", events), True)
        self.assertIs(shows_least_wrong((3, 3), 2, "receiver", events), False)

    def test_where_nothing_goes_wrong(self):
        for packets, who in (((3,), "sender"), ((), "sender"), ((), "receiver")):
            for room in (1, 2):
                self.assertIsNone(least_wrong(packets, room, who))
                for value in (None, (), (FORGET,), False, 0, [], *any_values()):
                    self.assertIs(shows_least_wrong(packets, room, who, value), value is None)

    def test_other_values(self):
        events = least_wrong((3, 5), 2, "receiver")
        for value in [list(events), (*events, FORGET), events[1:], (*events[:4], None), (*events[:4], ["hear"]), None,
                      (None,) * 5, *any_values()]:
            self.assertIs(shows_least_wrong((3, 5), 2, "receiver", value), False)

    def test_the_errors_in_their_order(self):
        for call in (least_wrong, lambda packets, room, who: shows_least_wrong(packets, room, who, None)):
            for value in [(1, 2, 3, 4, 5), *BAD_PACKETS, *[value for value in any_values() if value != ()]]:
                with self.assertRaises(BadPackets) as caught:
                    call(value, None, None)
                self.assertIs(caught.exception.value, value)
            for value in [0, 3, 20, True, "1", None, *any_values()]:
                with self.assertRaises(BadNumber) as caught:
                    call((1, 2, 3, 4), value, None)
                self.assertIs(caught.exception.value, value)
            for value in ["", "Sender", "there", 0, ("sender",), ["sender"], None, *any_values()]:
                with self.assertRaises(BadWord) as caught:
                    call((1, 2, 3, 4), 2, value)
                self.assertIs(caught.exception.value, value)


if __name__ == "__main__":
    unittest.main()
