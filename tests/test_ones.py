"""Tests of countededges.ones."""

import itertools
import unittest

from countededges.counters import Counters, all_counters
from countededges.errors import BadArgument, BadCounter, Rings
from countededges.lots import Lot, values_of
from countededges.ones import twins, twins_for
from countededges.programs import Program, runs_to
from countededges.telling import tells
from tests.samples import (
    ODD_VALUES, SAME, SOUR, Checks, diamond, fork, great_programs, ladder, loop, maze, small_programs, some_sets, split,
    value_in, wheel, words)

WRONG_COUNTERS = [*ODD_VALUES, 0, diamond(), [("runs",)], (("runs",),), Lot.of(diamond())]

NO_TARGETS = [*ODD_VALUES, 0, "runs", "a", ["runs"], ("way",), ("way", "w"), ("way", "e"), ("place", "q"), ("stop", "a"),
              ("way", SAME), (SOUR, "a"), ("runs", "a"), ("a",), Counters(diamond(), ("runs",))]


def programs():
    """Small programs without rings: all of their runs have at most eight ways."""
    return [diamond(), split(), ladder(3), ladder(5), Program.row("one"), Program.row("z", "y", "x", "w"),
            Program({"x": ("a", "b"), "y": ("a", "b")}, "a", ["b"]), *small_programs(60, rings=False)]


def runs_by_values(counters):
    """All runs of a small program, those with the same values together, by point 5 alone."""
    program = counters.program
    found = {}
    for run in runs_to(program, 8):
        values = tuple(value_in(program, [run], counter) for counter in counters.listed())
        found.setdefault(values, []).append(run)
    return list(found.values())


def follows(program, ring):
    """Whether a list of ways leads from a place back to it."""
    links = [program[way] for way in ring]
    return len(ring) > 0 and all(one[1] == other[0] for one, other in zip(links, [*links[1:], links[0]]))


class OneChecks(Checks):
    """Checks of one answer, by point 8 alone."""

    def are_twins(self, counters, told):
        """Checks that two runs are unlike and have the same values."""
        self.are_unlike_runs(counters.program, told)
        for counter in counters.listed():
            self.assertEqual(*[value_in(counters.program, [run], counter) for run in told])

    def are_twins_for(self, counters, target, told):
        """Checks that two runs have the same values and unlike ones for the target."""
        self.are_twins(counters, told)
        self.assertNotEqual(*[value_in(counters.program, [run], target) for run in told])

    def fails_by_ring(self, program, call, /, *given, **named):
        """Checks that a call raises Rings with a ring of the program."""
        with self.assertRaises(Rings) as caught:
            call(*given, **named)
        self.assertIs(caught.exception.__class__, Rings)
        self.assertTrue(follows(program, caught.exception.ring))
        self.assertIs(caught.exception.ring.__class__, list)


class TwinsTests(OneChecks):

    def test_by_all_runs_of_small_programs(self):
        for program in programs():
            for counters in some_sets(program, 12):
                told = twins(counters)
                if all(len(runs) == 1 for runs in runs_by_values(counters)):
                    self.assertIsNone(told, counters.listed())
                else:
                    self.are_twins(counters, told)

    def test_all_sets_of_small_programs(self):
        for program in (split(), Program({"x": ("a", "b"), "y": ("a", "b"), "z": ("b", "c")}, "a", ["b", "c"])):
            known = all_counters(program)
            for many in (0, 1, 2, 3, len(known) - 1, len(known)):
                for chosen in itertools.combinations(known, many):
                    counters = Counters(program, *chosen)
                    alone = all(len(runs) == 1 for runs in runs_by_values(counters))
                    self.assertIs(twins(counters) is None, alone, chosen)

    def test_one_run_alone(self):
        self.assertIsNone(twins(Counters(Program.row("x"))))
        self.assertIsNone(twins(Counters(Program.row(*words(25)))))

    def test_places_that_are_passed_or_not(self):
        self.assertIsNone(twins(Counters(diamond(), ("place", "b"), ("stop", "e"))))
        self.are_twins(Counters(diamond(), ("place", "b")), twins(Counters(diamond(), ("place", "b"))))
        self.are_twins(Counters(diamond(), ("place", "a")), twins(Counters(diamond(), ("place", "a"))))
        self.are_twins(Counters(diamond(), ("runs",)), twins(Counters(diamond(), ("runs",))))

    def test_a_run_that_is_a_part_of_another_one(self):
        row = Program({"x": ("a", "b"), "y": ("b", "c")}, "a", ["a", "b", "c"])
        self.assertIsNone(twins(Counters(row, ("stop", "a"), ("stop", "b"))))
        self.are_twins(Counters(row, ("stop", "a")), twins(Counters(row, ("stop", "a"))))
        self.assertIsNone(twins(Counters(row, ("way", "x"), ("way", "y"))))
        self.are_twins(Counters(row, ("way", "x")), twins(Counters(row, ("way", "x"))))

    def test_a_set_that_tells_one_run_but_not_all_lots(self):
        program = Program({"p": ("a", "b"), "q": ("a", "b"), "r": ("b", "c"), "s": ("b", "c")}, "a", ["c"])
        counters = Counters.of_ways(program, "p", "r")
        self.assertIsNone(twins(counters))
        self.assertIs(tells(counters, ("runs",)), False)

    def test_more_runs_than_can_be_listed(self):
        program = ladder(20)
        sides = [way for way in program.ways() if way.startswith("p")]
        stops = [("stop", place) for place in program.exits()]
        counters = Counters(program, *[("way", way) for way in sides], *stops)
        self.assertIsNone(twins(counters))
        for way in sides:
            fewer = counters - Counters.of_ways(program, way)
            self.are_twins(fewer, twins(fewer))
        for stop in stops:
            self.assertIsNone(twins(counters - Counters(program, stop)))
        for two in itertools.combinations(stops, 2):
            fewer = counters - Counters(program, *two)
            self.are_twins(fewer, twins(fewer))

    def test_great_programs(self):
        for program in great_programs():
            for counters in some_sets(program, 3):
                if program.find_ring() is None:
                    told = twins(counters)
                    if told is not None:
                        self.are_twins(counters, told)
                else:
                    self.fails_by_ring(program, twins, counters)
            if program.find_ring() is None:
                self.assertIsNone(twins(Counters.everything(program)))

    def test_values_of_lots_of_one_run(self):
        for program in programs():
            for counters in some_sets(program, 3):
                told = twins(counters)
                if told is not None:
                    one, other = [values_of(counters, Lot.of(program, run)) for run in told]
                    self.assertEqual(one, other)

    def test_programs_with_rings(self):
        for program in (fork(), loop(), maze(), wheel(2), wheel(40)):
            for counters in (Counters(program), Counters.everything(program)):
                self.fails_by_ring(program, twins, counters)
                self.fails_by_ring(program, twins, counters=counters)

    def test_wrong_counters(self):
        for value in [*WRONG_COUNTERS, fork()]:
            self.fails(BadArgument, value, twins, value)
            self.fails(BadArgument, value, twins, counters=value)

    def test_the_same_again_and_the_runs_belong_to_the_caller(self):
        counters = Counters(split(), ("place", "c"))
        self.gives_runs_away(twins, counters)
        self.assertEqual(twins(counters=Counters(split(), ("place", "c"))), twins(counters))


class TwinsForTests(OneChecks):

    def test_by_all_runs_of_small_programs(self):
        for program in programs():
            for counters in some_sets(program, 6):
                groups = runs_by_values(counters)
                for target in all_counters(program):
                    unlike = any(len({value_in(program, [run], target) for run in runs}) > 1 for runs in groups)
                    told = twins_for(counters, target)
                    if unlike:
                        self.are_twins_for(counters, target, told)
                    else:
                        self.assertIsNone(told)

    def test_targets_that_are_always_told(self):
        for program in programs():
            for counters in some_sets(program, 3):
                self.assertIsNone(twins_for(counters, ("runs",)))
                self.assertIsNone(twins_for(counters, ("place", program.begin)))
                for target in counters.listed():
                    self.assertIsNone(twins_for(counters, target))

    def test_one_told_count_beside_others(self):
        program = Program({"p": ("a", "b"), "q": ("a", "b"), "r": ("b", "c"), "s": ("b", "c")}, "a", ["c"])
        counters = Counters.of_ways(program, "p")
        self.assertIsNone(twins_for(counters, ("way", "q")))
        self.assertIsNone(twins_for(counters, ("stop", "c")))
        self.are_twins_for(counters, ("way", "r"), twins_for(counters, ("way", "r")))
        self.are_twins_for(counters, ("way", "s"), twins_for(target=("way", "s"), counters=counters))

    def test_more_runs_than_can_be_listed(self):
        program = ladder(20)
        counters = Counters.of_ways(program, *[way for way in program.ways() if way.startswith("p")][5:])
        for target in all_counters(program):
            told = twins_for(counters, target)
            if target[0] == "way" and target[1][1:] in words(5):
                self.are_twins_for(counters, target, told)
            elif told is not None:
                self.are_twins_for(counters, target, told)
        self.assertIsNone(twins_for(counters + Counters(program, *[("stop", place) for place in program.exits()]),
                                    ("way", "qat")))

    def test_the_ring_is_told_last(self):
        for program in (fork(), loop(), maze(), wheel(40)):
            for target in all_counters(program)[::3]:
                self.fails_by_ring(program, twins_for, Counters(program), target)
                self.fails_by_ring(program, twins_for, target=target, counters=Counters.everything(program))
            wrong = ("way", "none")
            self.fails(BadCounter, wrong, twins_for, Counters(program), wrong)
            self.fails(BadArgument, program, twins_for, program, wrong)

    def test_wrong_arguments(self):
        for value in WRONG_COUNTERS:
            self.fails(BadArgument, value, twins_for, value, ("runs",))
            self.fails(BadArgument, value, twins_for, value, None)
            self.fails(BadArgument, value, twins_for, target=SOUR, counters=value)
        for value in NO_TARGETS:
            self.fails(BadCounter, value, twins_for, Counters(diamond()), value)
            self.fails(BadCounter, value, twins_for, target=value, counters=Counters.everything(diamond()))

    def test_the_same_again_and_the_runs_belong_to_the_caller(self):
        counters = Counters(split(), ("place", "c"))
        self.gives_runs_away(twins_for, counters, ("way", "k"))


if __name__ == "__main__":
    unittest.main()
