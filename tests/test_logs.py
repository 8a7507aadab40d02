"""Tests of countededges.logs."""

import itertools
import unittest

from countededges.counters import Counters, all_counters
from countededges.errors import BadArgument, BadRun
from countededges.logs import log_of, log_twins
from countededges.lots import Lot
from countededges.ones import twins
from countededges.programs import Program, runs_to
from tests.samples import (
    ODD_VALUES, SAME, SOUR, Checks, all_programs, diamond, fork, great_programs, ladder, loop, maze, small_programs,
    some_runs, some_sets, split, value_in, wheel, words)

WRONG_COUNTERS = [*ODD_VALUES, 0, fork(), [("runs",)], (("runs",),), Lot.of(fork())]


def programs():
    """The programs that most tests here are about."""
    return [*all_programs(), split(), ladder(3), wheel(3), *small_programs(80), *small_programs(30, rings=False)]


def log_by_point(counters, run):
    """The log of a run, by point 9 alone."""
    program = counters.program
    everything = [[("place", program.begin)]]
    everything += [[("way", way), ("place", program[way][1])] for way in run]
    stop = program[run[-1]][1] if run else program.begin
    everything += [[("stop", stop)]]
    return [mark for marks in everything for mark in marks if mark in counters.listed()]


class LogTests(Checks):

    def test_logs_of_runs(self):
        for program in programs():
            for counters in some_sets(program, 6):
                for run in some_runs(program, 10):
                    self.only(log_of(counters, run), log_by_point(counters, run))

    def test_the_order_of_the_marks(self):
        everything = Counters.everything(fork())
        self.only(log_of(everything, ["x", "z", "y"]), [
            ("place", "a"), ("way", "x"), ("place", "b"), ("way", "z"), ("place", "a"), ("way", "y"), ("place", "b"),
            ("stop", "b")])
        self.only(log_of(Counters(fork(), ("runs",)), ["x"]), [])
        self.only(log_of(Counters(fork()), ["x", "z", "x"]), [])
        self.only(log_of(Counters(fork(), ("place", "a")), ["x", "z", "x"]), [("place", "a"), ("place", "a")])
        self.only(log_of(Counters(fork(), ("way", "x"), ("stop", "b")), ["x", "z", "x"]), [
            ("way", "x"), ("way", "x"), ("stop", "b")])

    def test_the_empty_run(self):
        self.only(log_of(Counters.everything(maze()), []), [("place", "in"), ("stop", "in")])
        self.only(log_of(Counters(maze(), ("stop", "out"), ("place", "mid")), []), [])
        self.only(log_of(Counters(loop(), ("stop", "home")), []), [("stop", "home")])

    def test_an_exit_that_is_passed_is_no_stop(self):
        counters = Counters(maze(), ("stop", "in"), ("stop", "out"))
        self.only(log_of(counters, ["over", "round", "back"]), [("stop", "in")])
        self.only(log_of(counters, ["go", "back", "over"]), [("stop", "out")])

    def test_long_runs(self):
        run = ["x", "z", "y", "z"] * 2000 + ["x"]
        counters = Counters(fork(), ("way", "y"), ("place", "b"), ("stop", "b"))
        log = log_of(counters, run)
        self.only(log, [("place", "b"), ("way", "y"), ("place", "b")] * 2000 + [("place", "b"), ("stop", "b")])

    def test_wrong_runs(self):
        counters = Counters.everything(fork())
        for value in [*ODD_VALUES, 0, "x", ("x",), ["z"], ["x", "x"], ["x", "z"], ["w"], ["x", SOUR], [SAME]]:
            self.fails(BadRun, value, log_of, counters, value)
            self.fails(BadRun, value, log_of, run=value, counters=Counters(fork()))

    def test_wrong_counters_are_told_first(self):
        for value in WRONG_COUNTERS:
            self.fails(BadArgument, value, log_of, value, ["x"])
            self.fails(BadArgument, value, log_of, value, None)
            self.fails(BadArgument, value, log_of, run=SOUR, counters=value)

    def test_by_name(self):
        self.only(log_of(run=["x"], counters=Counters(fork(), ("way", "x"))), [("way", "x")])

    def test_the_log_belongs_to_the_caller_and_the_run_is_not_changed(self):
        counters, run = Counters.everything(fork()), ["x", "z", "y"]
        before = list(log_of(counters, run))
        log_of(counters, run).clear()
        self.assertEqual(log_of(counters, run), before)
        self.assertEqual(run, ["x", "z", "y"])


class LogTwinsTests(Checks):

    def are_twins(self, counters, told):
        """Checks that two runs are unlike and have the same log, by point 9 alone."""
        self.are_unlike_runs(counters.program, told)
        self.assertEqual(*[log_by_point(counters, run) for run in told])

    def short_twins(self, counters):
        """Two unlike runs of some ways with the same log, or None, by going through all of them."""
        seen = {}
        for run in itertools.islice(runs_to(counters.program, 8), 400):
            log = tuple(log_by_point(counters, run))
            if log in seen:
                return seen[log], run
            seen[log] = run
        return None

    def test_short_runs_of_small_programs(self):
        logged = 0
        for program in programs():
            for counters in some_sets(program, 12):
                told = log_twins(counters)
                if told is None:
                    logged += 1
                    self.assertIsNone(self.short_twins(counters), counters.listed())
                else:
                    self.are_twins(counters, told)
        self.assertGreater(logged, 500)

    def test_all_sets_of_the_fork(self):
        known = all_counters(fork())
        for many in range(len(known) + 1):
            for chosen in itertools.combinations(known, many):
                counters = Counters(fork(), *chosen)
                told = log_twins(counters)
                self.assertIs(told is None, self.short_twins(counters) is None, chosen)
                if told is not None:
                    self.are_twins(counters, told)

    def test_without_rings_just_as_the_values(self):
        for program in [*small_programs(40, rings=False), diamond(), split(), ladder(4)]:
            for counters in some_sets(program, 8):
                self.assertIs(log_twins(counters) is None, twins(counters) is None)
                told = log_twins(counters)
                if told is not None:
                    for counter in counters.listed():
                        self.assertEqual(*[value_in(program, [run], counter) for run in told])

    def test_all_counted(self):
        for program in [*programs(), *great_programs()]:
            self.assertIsNone(log_twins(Counters.everything(program)))
            self.assertIsNone(log_twins(Counters.of_ways(program, *program.ways())))

    def test_runs_is_never_in_a_log(self):
        for counters in (Counters(fork(), ("runs",)), Counters(loop(), ("runs",)), Counters(diamond(), ("runs",))):
            self.are_twins(counters, log_twins(counters))
        self.assertIsNone(log_twins(Counters(Program.row("x", "y"), ("runs",))))

    def test_a_ring_that_bears_no_counter(self):
        ways = {"in": ("a", "b"), "round": ("b", "c"), "back": ("c", "b"), "out": ("b", "d")}
        program = Program(ways, "a", ["d"])
        bare = Counters(program, ("way", "in"), ("way", "out"), ("place", "a"), ("place", "d"), ("stop", "d"), ("runs",))
        self.are_twins(bare, log_twins(bare))
        for counter in [("way", "round"), ("way", "back"), ("place", "b"), ("place", "c")]:
            self.assertIsNone(log_twins(Counters(program, counter)))

    def test_one_place_with_a_ring(self):
        self.assertIsNone(log_twins(Counters(loop(), ("way", "again"))))
        self.assertIsNone(log_twins(Counters(loop(), ("place", "home"))))
        for counters in (Counters(loop()), Counters(loop(), ("stop", "home"), ("runs",))):
            self.are_twins(counters, log_twins(counters))

    def test_the_order_matters_in_a_log_but_not_in_the_values(self):
        counters = Counters(fork(), ("way", "x"), ("way", "y"))
        self.assertIsNone(log_twins(counters))
        self.assertEqual(Lot.of(fork(), ["x", "z", "y"]), Lot.of(fork(), ["y", "z", "x"]))

    def test_only_long_runs_have_the_same_log(self):
        places = words(19)
        ways = {"w" + place: (place, after) for place, after in zip(places, places[1:])}
        program = Program({**ways, "p": (places[-1], "end"), "q": (places[-1], "end")}, places[0], ["end"])
        counters = Counters(program, *[("way", way) for way in ways])
        self.are_twins(counters, log_twins(counters))
        self.assertEqual(len(log_twins(counters)[0]), 19)
        self.assertIsNone(log_twins(counters + Counters(program, ("way", "p"))))

    def test_only_runs_that_go_round_have_the_same_log(self):
        ways = {"go": ("a", "b"), "stay": ("a", "a"), "back": ("b", "c"), "on": ("c", "d"), "side": ("c", "d"),
                "home": ("d", "a")}
        program = Program(ways, "a", ["b"])
        counters = Counters.of_ways(program, "go", "stay", "back", "home")
        told = log_twins(counters)
        self.are_twins(counters, told)
        self.assertTrue(all(len(run) >= 5 for run in told))
        self.assertIsNone(log_twins(counters + Counters.of_ways(program, "side")))

    def test_a_run_that_goes_on_where_another_one_stops(self):
        row = Program({"x": ("a", "b"), "y": ("b", "c")}, "a", ["a", "b", "c"])
        self.are_twins(Counters(row), log_twins(Counters(row)))
        self.are_twins(Counters(row, ("way", "x")), log_twins(Counters(row, ("way", "x"))))
        self.assertIsNone(log_twins(Counters(row, ("stop", "a"), ("stop", "c"))))

    def test_great_programs(self):
        for program in great_programs():
            for counters in some_sets(program, 6):
                told = log_twins(counters)
                if told is not None:
                    self.are_twins(counters, told)
        self.assertIsNone(log_twins(Counters(wheel(40), ("place", "ad"))))
        self.are_twins(Counters(wheel(40)), log_twins(Counters(wheel(40))))

    def test_wrong_counters(self):
        for value in WRONG_COUNTERS:
            self.fails(BadArgument, value, log_twins, value)
            self.fails(BadArgument, value, log_twins, counters=value)

    def test_the_same_again_and_the_runs_belong_to_the_caller(self):
        counters = Counters(maze(), ("way", "go"))
        self.gives_runs_away(log_twins, counters)
        self.assertEqual(log_twins(counters=Counters(maze(), ("way", "go"))), log_twins(counters))


if __name__ == "__main__":
    unittest.main()
