"""What the tests share: programs, values of all kinds, and checks."""

import unittest

from countededges.errors import BadProgram
from countededges.programs import Program


class Sour:
    """A value that cannot be compared and cannot be a key of a dict."""

    __hash__ = None

    def __eq__(self, other):
        raise RuntimeError("this value is not to be compared")


class Same:
    """A value that says of everything that it is equal."""

    def __eq__(self, other):
        return True

    def __hash__(self):
        return hash("x")


SOUR = Sour()
SAME = Same()
KNOTTED = []
KNOTTED.append(KNOTTED)

# No one of these is a word, an integer, a counter, a run, an object of the package, or makes a part of one.
ODD_VALUES = [
    None, True, False, 1.5, float("nan"), 2j, "", "X", "x ", "x1", "\u00e9", "abcdefghi", b"x", bytearray(b"x"),
    [], ["X"], [["x"]], (), ("x",), (["x"],), ("x", "y"), {}, {"X": ("a", "b")}, {"a": 1}, set(), {"x"},
    frozenset(["x"]), range(3), object(), len, str, lambda: "x", SOUR, SAME, KNOTTED, [SOUR], (SOUR,), (SAME, SAME),
]


def fork():
    """Two ways from a to b, and one back: it has rings."""
    return Program({"x": ("a", "b"), "y": ("a", "b"), "z": ("b", "a")}, "a", ["b"])


def diamond():
    """No rings, two exits, and the place a has the word of a way."""
    ways = {"a": ("a", "b"), "p": ("a", "c"), "q": ("b", "d"), "r": ("c", "d"), "s": ("c", "e")}
    return Program(ways, "a", ["e", "d"])


def loop():
    """One place that is begin and exit, with one way to itself."""
    return Program({"again": ("home", "home")}, "home", ["home"])


def maze():
    """Rings of several lengths; the begin is an exit, and a way leads from a place to itself."""
    ways = {"go": ("in", "mid"), "back": ("mid", "in"), "stay": ("mid", "mid"), "on": ("mid", "out"),
            "over": ("in", "out"), "round": ("out", "mid")}
    return Program(ways, "in", ["out", "in"])


def all_programs():
    """One of each of the programs above, and two rows."""
    return [fork(), diamond(), loop(), maze(), Program.row("one"), Program.row("z", "y", "x", "w")]


def words(many):
    """So many different words, ascending."""
    letters = "abcdefghijklmnopqrstuvwxyz"
    return [one + other for one in letters for other in letters][:many]


class Checks(unittest.TestCase):
    """Checks of what a call raises."""

    def fails(self, error, value, call, /, *given, **named):
        """Checks that a call raises this very error, and that its field holds this very value."""
        with self.assertRaises(error) as caught:
            call(*given, **named)
        self.assertIs(caught.exception.__class__, error)
        self.assertEqual(len(vars(caught.exception)), 1)
        [field] = vars(caught.exception).values()
        self.assertIs(field, value)

    def fails_by_part(self, part, ways, begin, exits):
        """Checks that no program can be made, and which part is told."""
        with self.assertRaises(BadProgram) as caught:
            Program(ways, begin, exits)
        self.assertEqual(caught.exception.part, part)

    def only(self, values, expected):
        """Checks a list, and that it is really a list."""
        self.assertIs(values.__class__, list)
        self.assertEqual(values, expected)
