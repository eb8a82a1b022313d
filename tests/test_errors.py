import unittest

from downhillnet import errors
from downhillnet.errors import NetError
from tests.tools import Case, any_values

NAMES = """BadBook, BadNumber, BadName, BadStations, BadLinks, NoStation, NoLink, BadLot, BadTicks, TooMany, BadTick,
BadNames, BadHeaps, NoFlow, BadMoves, BadCut, BadLevels, NoWay, NotHoming, BadPackets, BadEvent, BadEvents, BadWord,
Unfit, NoDoor, TooFew, Held, BadLink, BadStation, NotPart, BadRule, BadDeed, NoNet, Amid, NotEmpty, LastOne,
NothingToUndo, NothingToRedo, NoNote, BadDesk""".replace("\n", " ").split(", ")


class Errors(Case):

    def test_net_error_derives_directly_from_value_error(self):
        self.assertEqual(NetError.__bases__, (ValueError,))

    def test_all_others_derive_directly_from_net_error(self):
        self.assertEqual(len(set(NAMES)), 40)
        for name in NAMES:
            with self.subTest(name):
                self.assertEqual(getattr(errors, name).__bases__, (NetError,))

    def test_each_is_a_class_of_its_own_in_this_file(self):
        for name in ["NetError", *NAMES]:
            with self.subTest(name):
                made = getattr(errors, name)
                self.assertEqual((made.__name__, made.__module__), (name, "downhillnet.errors"))

    def test_each_keeps_any_value(self):
        for name in ["NetError", *NAMES]:
            for value in [*any_values(), 0, 1, "a", ("a",), NetError, ValueError("x")]:
                with self.subTest(name=name, value=value):
                    self.assertIs(getattr(errors, name)(value).value, value)

    def test_each_is_caught_as_what_it_is(self):
        for name in NAMES:
            made = getattr(errors, name)
            for error in (made, NetError, ValueError):
                with self.subTest(name=name, error=error):
                    with self.assertRaises(error) as caught:
                        raise made(("a", [1]))
                    self.assertEqual(caught.exception.value, ("a", [1]))

    def test_none_is_caught_as_another(self):
        made = [getattr(errors, name)(1) for name in NAMES]
        for name in NAMES:
            with self.subTest(name):
                self.assertEqual(len([error for error in made if isinstance(error, getattr(errors, name))]), 1)

    def test_each_takes_just_one_value(self):
        for name in ["NetError", *NAMES]:
            with self.subTest(name):
                self.assertRaises(TypeError, getattr(errors, name))
                self.assertRaises(TypeError, getattr(errors, name), 1, 2)


if __name__ == "__main__":
    unittest.main()
