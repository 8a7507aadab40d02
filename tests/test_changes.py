"""Tests of countededges.changes."""

import itertools
import random
import unittest

from countededges.changes import changed_by, least_changes
from countededges.counters import Counters, all_counters
from countededges.errors import BadArgument, BadChange, BadCounter, BadProgram
from countededges.lots import Lot
from countededges.programs import Program
from tests.points import is_told
from tests.samples import (
    ODD_FULL_VALUES, ODD_VALUES, SAME, SOUR, Checks, all_programs, diamond, fork, great_programs, small_programs,
    some_sets, split)

WRONG_COUNTERS = [*ODD_VALUES, 0, fork(), [("runs",)], (("runs",),), Lot.of(fork())]

# None of these is a list of at most five.
NO_LISTS = [*[value for value in ODD_FULL_VALUES if value.__class__ is not list], (), {}, 0, "changes",
            (("add", ("runs",)),), {("add", ("runs",)): 1}, [("add", ("runs",))] * 6, [None] * 6, list(range(9))]

# None of these has the form of a counter with words.
NO_FORMS = [*ODD_VALUES, 0, "runs", "way:x", ["runs"], ["way", "x"], ("way",), ("way", "X"), ("way", ""), ("way", "x y"),
            ("way", "abcdefghi"), ("way", 1), ("way", None), ("way", SAME), ("way", SOUR), (SOUR, "x"), (SAME, "x"),
            ("runs", "x"), ("way", "x", "y"), ("ways", "x"), ("run",), ("x",), (("runs",),), Counters(fork(), ("runs",))]

# None of these has the form of a change.
NO_CHANGES = [*NO_FORMS, ("runs",), ("way", "x"), "add", ("add",), ("add", ("runs",), ("runs",)), ["add", ("runs",)],
              ("put", ("runs",)), ("take", ("runs",)), ("Add", ("runs",)), ("noexit", "a"), ("no_exit", "a"),
              ("exit", ("runs",)), ("exit", ("place", "a")), ("no exit", ("stop", "b")), ("exit",), ("exit", "a", "b"),
              (("add", ("runs",)),), (SAME, ("runs",)), (SOUR, "a"), (None, "a"), ("exit", "A"), ("exit", ""), ("exit", 1),
              ("exit", SAME), ("exit", ["a"]), ("no exit", SOUR), ("no exit", "abcdefghi"), ("drop", "runs"),
              *[(word, value) for word in ("add", "drop") for value in NO_FORMS]]


def bridge():
    """No rings; a to b and c, both to d, and d to e; only e is an exit, so each place can become one."""
    ways = {"p": ("a", "b"), "q": ("a", "c"), "r": ("b", "d"), "s": ("c", "d"), "t": ("d", "e")}
    return Program(ways, "a", ["e"])


def counters_with_exits(counters, exits):
    """The same counters of the program with other exits, or None if there is no such set."""
    program = counters.program
    try:
        other = Program({way: program[way] for way in program.ways()}, program.begin, exits)
        return Counters(other, *counters.listed())
    except (BadProgram, BadCounter):
        return None


def changed_by_words(counters, changes):
    """The set with the changes made by the words of point 15, or the number of the first that cannot be made."""
    for number, (kind, what) in enumerate(changes):
        listed, exits = counters.listed(), counters.program.exits()
        if kind == "add" and what in all_counters(counters.program) and what not in listed:
            counters = Counters(counters.program, *listed, what)
        elif kind == "drop" and what in listed:
            counters = Counters(counters.program, *[one for one in listed if one != what])
        elif kind == "exit" and what in counters.program.places() and what not in exits:
            counters = counters_with_exits(counters, [*exits, what])
        elif kind == "no exit" and what in exits and (
                other := counters_with_exits(counters, [one for one in exits if one != what])) is not None:
            counters = other
        else:
            return number
    return counters


def some_changes(program, many, seed):
    """So many changes of the right form, the same ones each time; not all of them can be made."""
    chance = random.Random(seed)
    places = [*program.places(), "none"]
    counters = [*all_counters(program), *[("stop", place) for place in places], ("way", "none")]
    kinds = [lambda: ("add", chance.choice(counters)), lambda: ("drop", chance.choice(counters)),
             lambda: ("exit", chance.choice(places)), lambda: ("no exit", chance.choice(places))]
    return [chance.choice(kinds)() for at in range(many)]


def least_by_words(counters, changes, targets):
    """All least sets of changes, by going through all sets of numbers."""
    reaching = []
    for many in range(len(changes) + 1):
        for numbers in itertools.combinations(range(len(changes)), many):
            changed = changed_by_words(counters, [changes[number] for number in numbers])
            if changed.__class__ is Counters and all(
                    target in all_counters(changed.program) and is_told(changed, target) for target in targets):
                reaching.append(numbers)
    return [list(one) for one in reaching if not any(set(other) < set(one) for other in reaching)]


class ChangedTests(Checks):

    def is_changed(self, counters, changes, program, *expected):
        """Checks the program and the counters behind changes, and that all given is as before."""
        listed, before = counters.listed(), list(changes)
        told = changed_by(counters, changes)
        self.assertIs(told.__class__, Counters)
        self.assertEqual(told, Counters(program, *expected))
        self.assertEqual((counters.listed(), changes), (listed, before))

    def cannot(self, counters, changes, at):
        """Checks that the change with a number is the first that cannot be made."""
        with self.assertRaises(BadChange) as caught:
            changed_by(counters, changes)
        self.assertIs(caught.exception.__class__, BadChange)
        self.assertIs(caught.exception.value, changes[at])

    def test_no_changes(self):
        for program in [*all_programs(), *great_programs()]:
            for counters in some_sets(program, 3):
                self.assertEqual(changed_by(counters, []), counters)

    def test_add_and_drop(self):
        some = Counters(fork(), ("way", "x"))
        self.is_changed(some, [("add", ("runs",))], fork(), ("way", "x"), ("runs",))
        self.is_changed(some, [("drop", ("way", "x"))], fork())
        self.is_changed(some, [("drop", ("way", "x")), ("add", ("way", "x"))], fork(), ("way", "x"))
        self.is_changed(some, [("add", ("place", "a")), ("drop", ("way", "x")), ("add", ("stop", "b"))], fork(),
                        ("place", "a"), ("stop", "b"))

    def test_add_and_drop_that_cannot_be_made(self):
        some = Counters(fork(), ("way", "x"))
        for change in (("add", ("way", "x")), ("add", ("way", "w")), ("add", ("stop", "a")), ("add", ("place", "x")),
                       ("drop", ("way", "y")), ("drop", ("runs",)), ("drop", ("stop", "a")), ("drop", ("way", "w"))):
            self.cannot(some, [change], 0)
            self.cannot(some, [("add", ("way", "z")), change, None], 1)
        self.cannot(some, [("add", ("runs",)), ("add", ("runs",))], 1)
        self.cannot(some, [("drop", ("way", "x")), ("drop", ("way", "x"))], 1)

    def test_exits(self):
        some = Counters(fork(), ("way", "x"), ("stop", "b"))
        both = Program({"x": ("a", "b"), "y": ("a", "b"), "z": ("b", "a")}, "a", ["a", "b"])
        only = Program({"x": ("a", "b"), "y": ("a", "b"), "z": ("b", "a")}, "a", ["a"])
        self.is_changed(some, [("exit", "a")], both, ("way", "x"), ("stop", "b"))
        self.is_changed(some, [("exit", "a"), ("add", ("stop", "a"))], both, ("way", "x"), ("stop", "a"), ("stop", "b"))
        self.is_changed(some, [("exit", "a"), ("drop", ("stop", "b")), ("no exit", "b")], only, ("way", "x"))
        self.is_changed(some, [("exit", "a"), ("no exit", "a")], fork(), ("way", "x"), ("stop", "b"))
        self.is_changed(some, [("drop", ("stop", "b")), ("exit", "a"), ("no exit", "b"), ("exit", "b"),
                               ("add", ("stop", "b"))], both, ("way", "x"), ("stop", "b"))

    def test_exits_that_cannot_be_made(self):
        some = Counters(fork(), ("way", "x"))
        for place in ("b", "c", "x", "none"):
            self.cannot(some, [("exit", place)], 0)
        for place in ("a", "b", "c", "x", "none"):
            self.cannot(some, [("no exit", place)], 0)
        self.cannot(some, [("exit", "a"), ("exit", "a")], 1)
        self.cannot(some, [("exit", "a"), ("no exit", "b"), ("no exit", "a")], 2)

    def test_a_program_that_would_be_none(self):
        # From e no exit could be come to any more.
        self.cannot(Counters(bridge()), [("exit", "d"), ("no exit", "e")], 1)
        self.cannot(Counters(diamond()), [("no exit", "d")], 0)
        self.cannot(Counters(diamond()), [("no exit", "e")], 0)
        self.is_changed(Counters(bridge()), [("exit", "d"), ("no exit", "d")], bridge())

    def test_a_stop_whose_counter_is_still_in_the_set(self):
        some = Counters(split(), ("stop", "a"), ("stop", "c"), ("way", "k"))
        self.cannot(some, [("no exit", "a")], 0)
        self.cannot(some, [("drop", ("stop", "a")), ("no exit", "c")], 1)
        fewer = Program({way: split()[way] for way in split().ways()}, "a", ["c", "d"])
        self.is_changed(some, [("drop", ("stop", "a")), ("no exit", "a")], fewer, ("stop", "c"), ("way", "k"))
        self.cannot(some, [("drop", ("stop", "a")), ("no exit", "a"), ("add", ("stop", "a"))], 2)

    def test_any_changes(self):
        seen = []
        for program in [*all_programs(), bridge(), split(), *small_programs(30)]:
            for counters in some_sets(program, 3):
                for seed in range(12):
                    changes = some_changes(program, seed % 6, seed)
                    expected = changed_by_words(counters, changes)
                    seen.append(expected.__class__)
                    if expected.__class__ is int:
                        self.cannot(counters, changes, expected)
                    else:
                        self.is_changed(counters, changes, expected.program, *expected.listed())
        self.assertGreater(seen.count(Counters), 100)
        self.assertGreater(seen.count(int), 100)

    def test_great_programs(self):
        for program in great_programs():
            counters = Counters(program, ("runs",))
            self.is_changed(counters, [("add", ("way", program.ways()[-1])), ("drop", ("runs",))], program,
                            ("way", program.ways()[-1]))

    def test_five_changes_and_six(self):
        five = [("add", ("way", "x")), ("add", ("way", "y")), ("add", ("way", "z")), ("add", ("runs",)), ("exit", "a")]
        self.assertEqual(len(changed_by(Counters(fork()), five)), 4)
        six = [*five, ("no exit", "a")]
        self.fails(BadChange, six, changed_by, Counters(fork()), six)

    def test_by_name(self):
        told = changed_by(changes=[("add", ("runs",))], counters=Counters(fork()))
        self.assertEqual(told, Counters(fork(), ("runs",)))

    def test_given_changes_are_not_kept(self):
        changes = [("add", ("runs",)), ("exit", "a")]
        told = changed_by(Counters(fork()), changes)
        changes.clear()
        self.assertEqual((told.listed(), told.program.exits()), ([("runs",)], ["a", "b"]))

    def test_wrong_arguments(self):
        for value in WRONG_COUNTERS:
            self.fails(BadArgument, value, changed_by, value, [])
            self.fails(BadArgument, value, changed_by, value, None)
            self.fails(BadArgument, value, changed_by, changes=SOUR, counters=value)
        for value in NO_LISTS:
            self.fails(BadChange, value, changed_by, Counters(fork()), value)
            self.fails(BadChange, value, changed_by, changes=value, counters=Counters(fork()))
        for value in NO_CHANGES:
            self.fails(BadChange, value, changed_by, Counters(fork()), [value])
            self.fails(BadChange, value, changed_by, Counters(fork()), [("add", ("runs",)), value, None])

    def test_the_first_wrong_change_is_told(self):
        some = Counters(fork())
        self.cannot(some, [("drop", ("runs",)), None], 0)
        self.cannot(some, [None, ("drop", ("runs",))], 0)
        self.cannot(some, [("add", ("runs",)), ("exit", "b"), SOUR, SAME], 1)


class LeastTests(Checks):

    def are_least(self, counters, changes, *targets):
        """Checks the least sets against all sets, and that all given is as before."""
        listed, before = counters.listed(), list(changes)
        told = least_changes(counters, changes, *targets)
        self.only(told, least_by_words(counters, changes, targets))
        self.assertTrue(all(numbers.__class__ is list for numbers in told))
        self.assertEqual((counters.listed(), changes), (listed, before))
        return told

    def test_any_changes_and_targets(self):
        seen = []
        for program in [*all_programs(), bridge(), split(), *small_programs(25)]:
            for counters in some_sets(program, 4):
                for seed in range(4):
                    changes = some_changes(program, 2 + seed, seed)
                    for targets in ([], [("runs",)], random.Random(seed).sample(all_counters(program), 2)):
                        seen.append(len(self.are_least(counters, changes, *targets)))
        self.assertTrue({0, 1, 2} <= set(seen))

    def test_nothing_has_to_be_changed(self):
        for program in all_programs():
            changes = [("add", ("runs",)), ("drop", ("runs",)), ("exit", program.begin)]
            self.only(least_changes(Counters(program), changes), [[]])
            self.only(least_changes(Counters.everything(program), changes, *all_counters(program)), [[]])
            self.only(least_changes(Counters.everything(program), [], ("runs",)), [[]])

    def test_no_set_reaches_the_targets(self):
        self.only(least_changes(Counters(fork()), [], ("runs",)), [])
        self.only(least_changes(Counters(fork()), [("add", ("way", "x"))], ("runs",)), [])
        self.only(least_changes(Counters(fork()), [("add", ("runs",))], ("runs",), ("way", "none")), [])
        self.only(least_changes(Counters.everything(fork()), [], ("stop", "a")), [])

    def test_known_ones(self):
        changes = [("add", ("way", "x")), ("add", ("runs",)), ("add", ("stop", "b")), ("add", ("way", "z"))]
        self.only(self.are_least(Counters(fork()), changes, ("runs",)), [[1], [2]])
        self.only(self.are_least(Counters(fork()), changes, ("place", "a")), [[1, 3], [2, 3]])
        self.only(self.are_least(Counters(fork()), changes, ("way", "y")), [[0, 1, 3], [0, 2, 3]])
        self.only(self.are_least(Counters(fork()), changes, ("way", "x"), ("runs",)), [[0, 1], [0, 2]])

    def test_fewer_changes_come_first(self):
        some = Counters(fork(), ("way", "x"), ("way", "z"))
        changes = [("add", ("way", "y")), ("drop", ("way", "x")), ("add", ("place", "b")), ("add", ("runs",))]
        self.only(self.are_least(some, changes, ("place", "a")), [[0], [2], [3]])
        self.only(self.are_least(Counters(fork(), ("way", "x")), [
            ("add", ("way", "y")), ("add", ("way", "z")), ("add", ("runs",)), ("add", ("place", "a"))],
            ("place", "a")), [[0], [3], [1, 2]])

    def test_targets_that_only_the_new_program_has(self):
        changes = [("exit", "a"), ("add", ("stop", "a")), ("add", ("runs",)), ("add", ("stop", "b"))]
        self.only(self.are_least(Counters(fork()), changes, ("stop", "a")), [[0, 1], [0, 2, 3]])
        self.only(self.are_least(Counters(fork(), ("stop", "b")), changes[:3], ("stop", "a")), [[0, 1], [0, 2]])

    def test_targets_that_the_new_program_has_no_more(self):
        both = Program({"x": ("a", "b"), "y": ("a", "b"), "z": ("b", "a")}, "a", ["a", "b"])
        changes = [("no exit", "a"), ("add", ("runs",)), ("add", ("stop", "a"))]
        self.only(self.are_least(Counters(both), changes, ("stop", "b")), [[0, 1], [1, 2]])
        self.only(self.are_least(Counters(both, ("runs",)), changes[:2], ("stop", "a")), [])

    def test_a_change_that_cannot_be_made_alone(self):
        some = Counters(split(), ("stop", "a"), ("way", "k"))
        changes = [("drop", ("stop", "a")), ("no exit", "a"), ("add", ("runs",)), ("exit", "b"), ("drop", ("runs",))]
        self.are_least(some, changes, ("runs",))
        self.are_least(some, changes, ("way", "k"), ("stop", "b"))
        self.only(self.are_least(Counters(fork()), [("drop", ("runs",)), ("add", ("runs",))], ("runs",)), [[1]])

    def test_the_order_of_the_numbers_counts(self):
        drop, add = ("drop", ("way", "x")), ("add", ("way", "x"))
        self.only(self.are_least(Counters(fork(), ("way", "x")), [drop, add], ("way", "x")), [[]])
        self.only(self.are_least(Counters(fork()), [drop, add], ("way", "x")), [[1]])
        self.only(self.are_least(Counters(fork()), [("add", ("stop", "a")), ("exit", "a")], ("stop", "a")), [])
        self.only(self.are_least(Counters(fork()), [("exit", "a"), ("add", ("stop", "a"))], ("stop", "a")), [[0, 1]])

    def test_like_changes(self):
        changes = [("add", ("runs",)), ("add", ("runs",)), ("add", ("runs",))]
        self.only(self.are_least(Counters(fork()), changes, ("runs",)), [[0], [1], [2]])

    def test_five_changes_and_six(self):
        five = [("add", ("way", way)) for way in "xyz"] + [("add", ("runs",)), ("exit", "a")]
        self.only(self.are_least(Counters(fork()), five, ("way", "x"), ("way", "y"), ("way", "z"), ("runs",)), [
            [0, 1, 2], [0, 1, 3], [0, 2, 3], [1, 2, 3]])
        self.only(self.are_least(Counters(fork()), five, ("way", "x"), ("way", "y"), ("runs",), ("stop", "a")), [
            [0, 1, 2, 3, 4]])
        six = [*five, ("add", ("stop", "a"))]
        self.fails(BadChange, six, least_changes, Counters(fork()), six)

    def test_great_programs(self):
        for program in great_programs():
            ways = program.ways()[:5]
            changes = [("add", ("way", way)) for way in ways]
            told = least_changes(Counters(program), changes, ("way", ways[2]), ("way", ways[4]))
            self.assertIn(told[-1], [[2, 4], [4]])
            self.only(least_changes(Counters(program, ("runs",)), changes, ("runs",)), [[]])

    def test_wrong_arguments(self):
        for value in WRONG_COUNTERS:
            self.fails(BadArgument, value, least_changes, value, [], ("runs",))
            self.fails(BadArgument, value, least_changes, value, None, None)
            self.fails(BadArgument, value, least_changes, changes=SOUR, counters=value)
        for value in NO_LISTS:
            self.fails(BadChange, value, least_changes, Counters(fork()), value)
            self.fails(BadChange, value, least_changes, Counters(fork()), value, None)
            self.fails(BadChange, value, least_changes, changes=value, counters=Counters(fork()))
        for value in NO_CHANGES:
            self.fails(BadChange, value, least_changes, Counters(fork()), [value], ("runs",))
            self.fails(BadChange, value, least_changes, Counters(fork()), [("drop", ("runs",)), value, None], None)

    def test_wrong_targets(self):
        for value in NO_FORMS:
            self.fails(BadCounter, value, least_changes, Counters(fork()), [], value)
            self.fails(BadCounter, value, least_changes, Counters(fork()), [("drop", ("way", "none"))], ("runs",), value,
                       None)
        for target in (("way", "none"), ("stop", "a"), ("place", "zzzzzzzz")):
            self.only(least_changes(Counters(fork()), [("add", ("runs",))], target), [])

    def test_changes_that_cannot_be_made_are_no_error(self):
        changes = [("drop", ("runs",)), ("exit", "none"), ("no exit", "b"), ("add", ("way", "none")), ("add", ("runs",))]
        self.only(least_changes(Counters(fork()), changes, ("stop", "b")), [[4]])
        self.only(least_changes(changes=changes, counters=Counters(fork())), [[]])

    def test_what_was_returned_belongs_to_the_caller(self):
        changes = [("add", ("runs",)), ("add", ("stop", "b"))]
        told = least_changes(Counters(fork()), changes, ("runs",))
        changes.clear()
        self.assertEqual(told, [[0], [1]])
        for numbers in told:
            numbers.clear()
        told.clear()
        self.only(least_changes(Counters(fork()), [("add", ("runs",))], ("runs",)), [[0]])


if __name__ == "__main__":
    unittest.main()
