"""What several tests need."""

import unittest

from downhillnet.books import Book

TEXT = "net 4 0 1\ngoal home\nstation a 2 3\nstation b 1 0\nlink a b 2 2\nlink b home 1 3\nlink b a 1 0"


def nested(depth):
    """A value that is nested so deep, by all kinds in turn."""
    value = 1
    for number in range(depth):
        value = ([value], (value,), {"a": value})[number % 3]
    return value


def any_values():
    """Values of all kinds; none is a name, a lot, a weather, or a number that is asked for anywhere."""
    return [
        None, True, False, -1, 10 ** 39, "", "A", "a b", "a\tb", "ninechars", [], ["a"], ("A",), (None,), ([],), {},
        {"a": 1}, {"a": ()}, Book(TEXT), (Book(TEXT),), nested(60), (nested(59),), ((), ()),
    ]


class Case(unittest.TestCase):
    """A test case that can ask for an error with a value."""

    def refused(self, error, value, call, *args, **more):
        """The call raises just this error, with a value that is the same one, or equal and of the same kind."""
        with self.assertRaises(error) as caught:
            call(*args, **more)
        self.assertIs(caught.exception.__class__, error)
        self.same(caught.exception.value, value)

    def same(self, one, other):
        """Both are equal, and of the same kind throughout (True is not 1)."""
        self.assertEqual(one, other)
        self.assertEqual(kind(one), kind(other))


def kind(value):
    """The classes of a value and of its parts."""
    if isinstance(value, (tuple, list)):
        return (value.__class__, [kind(part) for part in value])
    if isinstance(value, dict):
        return (dict, [(kind(key), kind(part)) for key, part in value.items()])
    return value.__class__
