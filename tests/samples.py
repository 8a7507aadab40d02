"""What the tests share: programs, values of all kinds, and checks."""

import itertools
import random
import unittest

from countededges.counters import Counters, all_counters
from countededges.errors import BadProgram
from countededges.programs import Program, is_run, runs_to


class Sour:
    """A value that cannot be compared and cannot be a key of a dict."""

    __hash__ = None

    def __eq__(self, other):
        raise RuntimeError("this value is not to be compared")


class Same:
    """A value that says of everything that it is equal."""

    def __eq__(self, other):
        return True

    def __hash__(self):
        return hash("x")


SOUR = Sour()
SAME = Same()
KNOTTED = []
KNOTTED.append(KNOTTED)

# No one of these is a word, an integer, a counter, a run, an object of the package, or makes a part of one.
ODD_VALUES = [
    None, True, False, 1.5, float("nan"), 2j, "", "X", "x ", "x1", "\u00e9", "abcdefghi", b"x", bytearray(b"x"),
    [], ["X"], [["x"]], (), ("x",), (["x"],), ("x", "y"), {}, {"X": ("a", "b")}, {"a": 1}, set(), {"x"},
    frozenset(["x"]), range(3), object(), len, str, lambda: "x", SOUR, SAME, KNOTTED, [SOUR], (SOUR,), (SAME, SAME),
]

# Where an empty list, tuple or dict is right.
ODD_FULL_VALUES = [value for value in ODD_VALUES if value.__class__ not in (list, tuple, dict) or value]


def fork():
    """Two ways from a to b, and one back: it has rings."""
    return Program({"x": ("a", "b"), "y": ("a", "b"), "z": ("b", "a")}, "a", ["b"])


def diamond():
    """No rings, two exits, and the place a has the word of a way."""
    ways = {"a": ("a", "b"), "p": ("a", "c"), "q": ("b", "d"), "r": ("c", "d"), "s": ("c", "e")}
    return Program(ways, "a", ["e", "d"])


def loop():
    """One place that is begin and exit, with one way to itself."""
    return Program({"again": ("home", "home")}, "home", ["home"])


def maze():
    """Rings of several lengths; the begin is an exit, and a way leads from a place to itself."""
    ways = {"go": ("in", "mid"), "back": ("mid", "in"), "stay": ("mid", "mid"), "on": ("mid", "out"),
            "over": ("in", "out"), "round": ("out", "mid")}
    return Program(ways, "in", ["out", "in"])


def all_programs():
    """One of each of the programs above, and two rows."""
    return [fork(), diamond(), loop(), maze(), Program.row("one"), Program.row("z", "y", "x", "w")]


def split():
    """No rings; the begin is an exit, and two ways lead between the same places."""
    ways = {"k": ("a", "b"), "l": ("a", "b"), "m": ("b", "c"), "n": ("a", "c"), "o": ("c", "d")}
    return Program(ways, "a", ["a", "c", "d"])


def ladder(steps):
    """No rings, and two ways for each step, so that there are very many runs; a stop after each third step."""
    places = words(steps + 1)
    ways = {side + place: (place, after) for place, after in zip(places, places[1:]) for side in "pq"}
    return Program(ways, places[0], sorted({*places[3::3], places[-1]}))


def wheel(many):
    """One ring of so many ways; it begins at one place and stops at the one before."""
    places = words(many)
    ways = {"w" + place: (place, after) for place, after in zip(places, [*places[1:], places[0]])}
    return Program(ways, places[0], [places[-1]])


def great_programs():
    """Programs of forty ways of several forms."""
    many = words(40)
    wide = Program({word: ("a", "b") for word in many}, "a", ["b"])
    petals = Program({word: ("a", "a") for word in many}, "a", ["a"])
    row = Program({word: (f"p{word}", f"p{after}") for word, after in zip(many, words(41)[1:])}, "paa",
                  [f"p{word}" for word in words(41)])
    return [wide, petals, row, ladder(20), wheel(40)]


def made_program(ways, exits):
    """The program that begins at a, or None if there is none."""
    try:
        return Program(ways, "a", exits)
    except BadProgram:
        return None


def small_programs(many, rings=True):
    """So many unlike programs of up to seven ways between up to five places, the same ones each time."""
    chance = random.Random(many)
    found = []
    while len(found) < many:
        places = "abcde"[:chance.randint(2, 5)]
        pairs = [chance.choices(places, k=2) if rings else sorted(chance.sample(places, 2))
                 for at in range(chance.randint(1, 7))]
        exits = [place for place in places if chance.random() < 0.5]
        program = made_program({way: tuple(pair) for way, pair in zip("pqrstuv", pairs)}, exits)
        if program is not None and program not in found:
            found.append(program)
    return found


def some_sets(program, many):
    """None of the counters of a program, all of them, and so many other sets, the same ones each time."""
    chance = random.Random(many)
    counters = all_counters(program)
    chosen = [[one for one in counters if chance.random() < share] for share in itertools.islice(
        itertools.cycle([0.15, 0.3, 0.5, 0.7]), many)]
    return [Counters(program), Counters.everything(program), *[Counters(program, *some) for some in chosen]]


def value_in(program, runs, counter):
    """The value of a counter for some runs, by point 5 alone."""
    if counter == ("runs",):
        return len(runs)
    kind, word = counter
    if kind == "way":
        return sum(run.count(word) for run in runs)
    if kind == "place":
        return sum([program.begin, *[program[way][1] for way in run]].count(word) for run in runs)
    return sum([program.begin, *[program[way][1] for way in run]][-1] == word for run in runs)


def counts_of(program, runs):
    """The dict of the counts of ways, of stops, and of runs, by point 5 alone."""
    return {counter: value_in(program, runs, counter) for counter in all_counters(program) if counter[0] != "place"}


def some_runs(program, many=40):
    """The shortest runs of a program, with some that are longer."""
    runs = list(itertools.islice(runs_to(program, 8), 600))
    return runs[:many] + runs[many::37]


def words(many):
    """So many different words, ascending."""
    letters = "abcdefghijklmnopqrstuvwxyz"
    return [one + other for one in letters for other in letters][:many]


class Checks(unittest.TestCase):
    """Checks of what a call raises."""

    def fails(self, error, value, call, /, *given, **named):
        """Checks that a call raises this very error, and that its field holds this very value."""
        with self.assertRaises(error) as caught:
            call(*given, **named)
        self.assertIs(caught.exception.__class__, error)
        self.assertEqual(len(vars(caught.exception)), 1)
        [field] = vars(caught.exception).values()
        self.assertIs(field, value)

    def fails_by_part(self, part, ways, begin, exits):
        """Checks that no program can be made, and which part is told."""
        with self.assertRaises(BadProgram) as caught:
            Program(ways, begin, exits)
        self.assertEqual(caught.exception.part, part)

    def are_unlike_runs(self, program, told):
        """Checks that a value is a tuple of two unlike runs."""
        self.assertIs(told.__class__, tuple)
        for run in told:
            self.assertIs(run.__class__, list)
            self.assertTrue(is_run(program, run), run)
        one, other = told
        self.assertNotEqual(one, other)

    def gives_runs_away(self, call, *given):
        """Checks that a call tells the same two runs again, whatever the caller does to them."""
        one, other = call(*given)
        before = list(one), list(other)
        one.clear()
        other.append("more")
        self.assertEqual(call(*given), before)

    def only(self, values, expected):
        """Checks a list, and that it is really a list."""
        self.assertIs(values.__class__, list)
        self.assertEqual(values, expected)
