"""What the tests share: exact comparison, junk values, checks of parameters."""

import copy
import unittest

from everyohm import errors

FIELDS = {
    "NotUsable": ("word", "at"),
    "TooMany": ("limit",),
    "NoSuchName": ("name",),
    "NameTwice": ("name",),
    "StillUsed": ("name",),
    "NotFlat": ("reason", "name"),
    "InvalidText": ("line", "word"),
    "Unended": ("line",),
    "InvalidMove": ("move", "reason"),
    "InvalidLine": ("reason",),
}

TURNER = (("low", "high", "a"), (("q", 1),), (("tie", 1, -1, 1, 3), ("one", 2, 2, 0, 3)))
STORE = (("low", "high", "d", "g"), (("s", 1),), (("one", 1, 3, 2, 4),))
FIGHT = (("low", "high"), (("m", 1),), (("tie", 1, -1, 0, 2), ("tie", 1, -1, 1, 2)))
PAIR = (("low", "high"), (("p", 1), ("q", 1)), (("one", 1, 2, 1, 3),))
BARE = (("low", "high"), (), ())
LADDER = (
    ("low", "high"),
    (("p", 1), ("q", 2)),
    (("tie", 2, -1, 1, 2), ("tie", 1, -1, 2, 3)),
)
DOUBLE = (
    ("low", "high", "a"),
    (("p", 1), ("q", 1)),
    (("tie", 1, -1, 1, 3), ("one", 2, 2, 0, 3), ("tie", 1, -1, 1, 4), ("one", 2, 3, 0, 4)),
)
CROSS = (
    ("low", "high", "a", "b"),
    (("p", 1), ("q", 4), ("r.s[3]", 2), ("t", 3)),
    (
        ("zero", 6, 2, 4, 5),
        ("one", 1, 5, 6, 0),
        ("tie", 3, -1, 1, 6),
        ("one", 2, 4, 4, 3),
        ("zero", 2, 6, 2, 3),
        ("one", 2, 4, 5, 4),
    ),
)
NETS = (TURNER, STORE, FIGHT, PAIR, BARE, LADDER, DOUBLE, CROSS)

# Any values, of all kinds, lists beside tuples, bools beside 0 and 1.
JUNK = (
    None, True, False, -1, 0, 1, 2, 3, 4, 5, 6, 7, 64, 65, 10 ** 399, -(10 ** 399),
    "", "x", "a", "low", "high", "one", "tie", "A", "a b", "0", "1", "a.b", "a[0]", "-", "a\nb",
    (), (0,), (1,), (2,), (0, 1), (1, 0), (0, 1, 2), (True,), (0, True), (None,), ("a",), ((),),
    ((0, 1),), ((1, 2), (1, 2)), (("a", 1),), (-1,), (3,), (0, 0), (2, 4), (1, 1, 1, 1, 1, 1),
    [], [0], [0, 1], [1, 2], ["a"], [()], [[]], ((0, 1), [0, 1]), ([0, 1], (0, 1)),
    ("num", 1), ("var", "k"), ("var", "in"), ("tie", 1, -1, 1, 2),
    (("low", "high"), (), ()), (("low", "high"), [], ()), [("low", "high"), (), ()],
)


def shape(thing):
    """Return thing in a form in which True is not 1, and no list a tuple."""
    if isinstance(thing, (tuple, list)):
        return (type(thing).__name__, tuple(shape(part) for part in thing))
    return (type(thing).__name__, repr(thing))


def junk_but(fits):
    """Return all junk that does not fit."""
    return [thing for thing in JUNK if not fits(thing)]


def is_text(thing):
    return isinstance(thing, str)


class Case(unittest.TestCase):
    """A test case with the checks that all points need."""

    def same(self, result, wanted):
        """Check that two values are the same, kinds included."""
        self.assertEqual(shape(result), shape(wanted))

    def fails(self, name, fields, function, /, *arguments, **more):
        """Check that a call raises just this error, and changes no argument."""
        before = shape([list(arguments), list(more.items())])
        try:
            result = function(*arguments, **more)
        except errors.OhmError as error:
            told = tuple(getattr(error, field) for field in FIELDS[type(error).__name__])
            self.same((type(error).__name__, told), (name, fields))
        else:
            self.fail(f"{function.__name__}{arguments} gave {result!r}, not {name}{fields}")
        self.assertEqual(shape([list(arguments), list(more.items())]), before)

    def gives(self, wanted, function, /, **arguments):
        """Check what a call returns, by position and by name; nothing changes."""
        before = shape(list(arguments.values()))
        self.same(function(*arguments.values()), wanted)
        self.same(function(**arguments), wanted)
        backwards = dict(reversed(list(arguments.items())))
        self.same(function(**backwards), wanted)
        self.assertEqual(shape(list(arguments.values())), before)

    def refuses(self, function, good, bad, passed=()):
        """Check NotUsable for each bad value, alone and with later bad ones.

        good has a usable value for each parameter, in order; bad has a list
        of unusable ones for each that is checked; those in passed are not.
        """
        for at, name in enumerate(good):
            if name in passed:
                continue
            self.assertTrue(bad[name])
            for thing in bad[name]:
                with self.subTest(function=function.__name__, name=name, thing=thing):
                    alone = dict(good)
                    alone[name] = copy.deepcopy(thing)
                    self.refuses_call(function, alone, name)
                    later = dict(alone)
                    for other in list(good)[at + 1:]:
                        later[other] = copy.deepcopy(bad[other][0])
                    self.refuses_call(function, later, name)

    def refuses_call(self, function, arguments, name):
        """Check NotUsable for one call, by position and by name."""
        self.fails("NotUsable", (name, -1), function, *arguments.values())
        self.fails("NotUsable", (name, -1), function, **arguments)
