"""Tests of countededges.lots."""

import collections
import itertools
import unittest

from countededges.counters import Counters, all_counters
from countededges.errors import BadArgument, BadCounter, BadLot, BadNumber, BadRun, NoLot, TooMany
from countededges.lots import Lot, values_of
from countededges.programs import Program, is_run
from tests.samples import (
    ODD_VALUES, SAME, SOUR, Checks, all_programs, counts_of, diamond, fork, great_programs, ladder, loop, maze,
    small_programs, some_runs, some_sets, split, value_in, wheel, words)

WRONG_PROGRAMS = [*ODD_VALUES, 0, "program", Counters(fork()), Lot.of(fork())]

NO_NUMBERS = [*ODD_VALUES, -1, -2, -10**40, 1.0, 0.0, "2", [2], (2,), Lot.of(fork()), fork()]


def programs():
    """The programs that most tests here are about."""
    return [*all_programs(), split(), ladder(3), wheel(3)]


def lots_of_runs(program):
    """Some lists of runs of a program: none, one each, several, and some of them more than once."""
    runs = some_runs(program, 6)[:12]
    return [[], *[[run] for run in runs], runs, runs[::-1], [*runs[:2], *runs[:2], *runs[:1]]]


def unlike_fork():
    """The fork with one exit more."""
    return Program({"x": ("a", "b"), "y": ("a", "b"), "z": ("b", "a")}, "a", ["a", "b"])


def fork_counts(x, y, z, stop, runs):
    """Counts of the fork."""
    return {("way", "x"): x, ("way", "y"): y, ("way", "z"): z, ("stop", "b"): stop, ("runs",): runs}


def two_rings():
    """A way with a ring at its begin, one at its end, and a ring of two ways that is left again."""
    ways = {"at": ("a", "a"), "on": ("a", "b"), "end": ("b", "b"), "out": ("b", "c"), "back": ("c", "b")}
    return Program(ways, "a", ["b"])


class LotOfTests(Checks):

    def test_counts_by_the_runs(self):
        for program in programs():
            for runs in lots_of_runs(program):
                lot = Lot.of(program, *runs)
                self.assertIs(lot.__class__, Lot)
                self.assertEqual(lot.counts(), counts_of(program, runs))
                self.assertIs(lot.counts().__class__, dict)
                self.assertEqual(lot.runs, len(runs))
                self.assertEqual(lot.program, program)

    def test_each_counter_by_the_runs(self):
        for program in programs():
            for runs in lots_of_runs(program):
                lot = Lot.of(program, *runs)
                for counter in all_counters(program):
                    self.assertEqual(lot[counter], value_in(program, runs, counter), counter)

    def test_the_lot_of_no_run(self):
        lot = Lot.of(fork())
        self.assertEqual(lot.counts(), fork_counts(0, 0, 0, 0, 0))
        self.assertEqual((lot.runs, lot[("place", "a")], lot[("runs",)]), (0, 0, 0))
        self.assertEqual(Lot.of(program=fork()), lot)

    def test_the_empty_run(self):
        lot = Lot.of(maze(), [], [])
        self.assertEqual((lot.runs, lot[("stop", "in")], lot[("stop", "out")]), (2, 2, 0))
        self.assertEqual((lot[("place", "in")], lot[("place", "mid")], lot[("way", "go")]), (2, 0, 0))
        self.assertEqual(Lot.of(loop(), [])[("place", "home")], 1)
        nothing = []
        self.fails(BadRun, nothing, Lot.of, fork(), ["x"], nothing)

    def test_a_begin_that_is_come_to_again(self):
        lot = Lot.of(fork(), ["x", "z", "y"], ["y"])
        self.assertEqual(lot.counts(), fork_counts(1, 2, 1, 2, 2))
        self.assertEqual((lot[("place", "a")], lot[("place", "b")]), (3, 3))
        self.assertEqual(Lot.of(loop(), ["again"] * 5)[("place", "home")], 6)

    def test_the_order_of_the_runs_means_nothing(self):
        runs = [["x"], ["y"], ["x", "z", "x"]]
        for given in itertools.permutations(runs):
            self.assertEqual(Lot.of(fork(), *given), Lot.of(fork(), *runs))

    def test_unlike_runs_with_the_same_counts(self):
        self.assertEqual(Lot.of(fork(), ["x", "z", "y"]), Lot.of(fork(), ["y", "z", "x"]))
        self.assertNotEqual(Lot.of(fork(), ["x"], ["x"]), Lot.of(fork(), ["x"]))

    def test_the_first_value_that_is_no_run(self):
        for value in [*ODD_VALUES, 0, "x", ("x",), ["z"], ["x", "x"], ["x", "z"], ["w"], ["x", SOUR], [SAME]]:
            self.fails(BadRun, value, Lot.of, fork(), value)
            self.fails(BadRun, value, Lot.of, fork(), ["x"], value, ["z"])
            self.fails(BadRun, value, Lot.of, fork(), ["x"], ["y"], value, None)

    def test_wrong_programs_are_told_first(self):
        for value in WRONG_PROGRAMS:
            self.fails(BadArgument, value, Lot.of, value)
            self.fails(BadArgument, value, Lot.of, value, ["x"], None)
            self.fails(BadArgument, value, Lot.of, program=value)

    def test_given_runs_are_neither_changed_nor_kept(self):
        runs = [["x", "z", "y"], ["y"]]
        lot = Lot.of(fork(), *runs)
        self.assertEqual(runs, [["x", "z", "y"], ["y"]])
        runs[0].clear()
        self.assertEqual(lot.counts(), fork_counts(1, 2, 1, 2, 2))

    def test_static_methods_and_properties(self):
        self.assertIsInstance(vars(Lot)["of"], staticmethod)
        self.assertIsInstance(vars(Lot)["counted"], staticmethod)
        for name in ("program", "runs"):
            self.assertIsInstance(vars(Lot)[name], property)
            with self.assertRaises(AttributeError):
                setattr(Lot.of(fork()), name, None)

    def test_many_long_runs(self):
        run = ["x", "z", "y", "z"] * 1000 + ["y"]
        lot = Lot.of(fork(), *[run] * 5)
        self.assertEqual(lot.counts(), fork_counts(5000, 5005, 10000, 5, 5))


class CountedTests(Checks):

    def test_the_counts_of_runs_make_an_equal_lot(self):
        for program in programs():
            for runs in lots_of_runs(program):
                counts = counts_of(program, runs)
                lot = Lot.counted(program, counts)
                self.assertEqual(lot, Lot.of(program, *runs))
                self.assertEqual(lot.counts(), counts)
                self.assertEqual((lot.runs, lot.program), (len(runs), program))

    def test_the_order_of_the_keys_means_nothing(self):
        counts = fork_counts(1, 2, 1, 2, 2)
        for keys in itertools.permutations(counts):
            lot = Lot.counted(fork(), {key: counts[key] for key in keys})
            self.assertEqual(lot, Lot.of(fork(), ["x", "z", "y"], ["y"]))

    def test_by_name(self):
        self.assertEqual(Lot.counted(counts=fork_counts(1, 0, 0, 1, 1), program=fork()), Lot.of(fork(), ["x"]))

    def fails_by_reason(self, reason, program, counts):
        """Checks that no lot has these counts, and why."""
        with self.assertRaises(NoLot) as caught:
            Lot.counted(program, counts)
        self.assertIs(caught.exception.__class__, NoLot)
        self.assertEqual(caught.exception.reason, reason)

    def test_no_flow(self):
        for given in ((1, 0, 0, 0, 0), (0, 0, 1, 0, 0), (0, 0, 0, 1, 0), (0, 0, 0, 0, 1), (1, 0, 0, 1, 2),
                      (1, 0, 0, 2, 1), (1, 1, 0, 1, 1), (1, 0, 1, 1, 1), (10**40, 0, 0, 10**40 - 1, 10**40)):
            self.fails_by_reason("flow", fork(), fork_counts(*given))

    def test_below(self):
        for given in ((-1, 0, 0, -1, -1), (2, -1, 0, 1, 1), (1, -1, 0, 0, 0), (0, 0, -1, 1, 1), (-1, 0, -1, 0, 0),
                      (10**40, -10**40, 0, 0, 0)):
            self.fails_by_reason("below", fork(), fork_counts(*given))

    def rings_counts(self, **given):
        """Counts of the program with two rings."""
        counts = {("way", way): given.get(way, 0) for way in two_rings().ways()}
        return {**counts, ("stop", "b"): given.get("stop", 0), ("runs",): given.get("runs", 0)}

    def test_ways_that_hang_apart(self):
        apart = [dict(at=1), dict(end=2), dict(out=1, back=1), dict(at=3, end=1), dict(at=10**40)]
        for given in apart:
            self.fails_by_reason("apart", two_rings(), self.rings_counts(**given))
        self.fails_by_reason("apart", fork(), fork_counts(1, 0, 1, 0, 0))
        self.fails_by_reason("apart", loop(), {("way", "again"): 1, ("stop", "home"): 0, ("runs",): 0})

    def test_rings_that_cannot_be_come_to(self):
        ways = {"on": ("a", "b"), "to": ("a", "c"), "round": ("c", "c"), "out": ("c", "b")}
        program = Program(ways, "a", ["b", "c"])
        counts = {("way", "on"): 1, ("way", "to"): 0, ("way", "round"): 1, ("way", "out"): 0,
                  ("stop", "b"): 1, ("stop", "c"): 0, ("runs",): 1}
        self.fails_by_reason("apart", program, counts)
        joined = {**counts, ("way", "on"): 0, ("way", "to"): 1, ("way", "out"): 1}
        self.assertEqual(Lot.counted(program, joined), Lot.of(program, ["to", "round", "out"]))

    def test_rings_that_can_be_come_to(self):
        lot = Lot.counted(two_rings(), self.rings_counts(at=1, on=1, end=2, out=3, back=3, stop=1, runs=1))
        self.assertEqual(lot.runs, 1)
        again = Lot.counted(loop(), {("way", "again"): 10**40, ("stop", "home"): 1, ("runs",): 1})
        self.assertEqual(again[("place", "home")], 10**40 + 1)

    def test_an_empty_run_does_not_reach_rings_elsewhere(self):
        ways = {"on": ("a", "b"), "round": ("b", "b")}
        counts = {("way", "on"): 0, ("way", "round"): 1, ("stop", "a"): 1, ("stop", "b"): 0, ("runs",): 1}
        self.fails_by_reason("apart", Program(ways, "a", ["a", "b"]), counts)

    def test_the_first_reason_is_told(self):
        self.fails_by_reason("flow", fork(), fork_counts(-1, 0, 0, 0, 0))
        self.fails_by_reason("flow", two_rings(), self.rings_counts(at=1, out=1))
        self.fails_by_reason("flow", two_rings(), self.rings_counts(at=1, end=-1, on=1))
        self.fails_by_reason("below", two_rings(), self.rings_counts(at=1, end=-1))
        self.fails_by_reason("below", two_rings(), self.rings_counts(out=-1, back=-1, end=1))

    def test_all_small_counts_of_the_fork(self):
        runs = [run for run in some_runs(fork(), 30) if len(run) <= 5]
        made = [[], *[[run] for run in runs], *[list(pair) for pair in itertools.product(runs, repeat=2)]]
        possible = [counts_of(fork(), given) for given in made]
        for x, y, z, runs in itertools.product(range(-1, 3), range(-1, 3), range(-1, 3), range(-1, 3)):
            counts = fork_counts(x, y, z, runs, runs)
            if counts in possible:
                self.assertEqual(Lot.counted(fork(), counts).counts(), counts)
            else:
                self.assertRaises(NoLot, Lot.counted, fork(), counts)

    def test_values_that_are_no_dict_of_counts(self):
        for value in [*ODD_VALUES, 0, "counts", [("runs",)], Lot.of(fork()), fork(), list(fork_counts(0, 0, 0, 0, 0))]:
            self.fails(BadLot, value, Lot.counted, fork(), value)
            self.fails(BadLot, value, Lot.counted, program=fork(), counts=value)

    def test_wrong_keys(self):
        right = fork_counts(1, 0, 0, 1, 1)
        for key in right:
            fewer = {one: right[one] for one in right if one != key}
            self.fails(BadLot, fewer, Lot.counted, fork(), fewer)
            for other in [("place", "a"), ("way", "w"), ("stop", "a"), "runs", "x", 0, None, (), frozenset(), SAME]:
                swapped = {**fewer, other: right[key]}
                self.fails(BadLot, swapped, Lot.counted, fork(), swapped)
        for more in [("place", "a"), ("place", "b"), ("way", "w"), ("stop", "a"), "runs", 0, (SAME,), SAME]:
            wrong = {**right, more: 1}
            self.fails(BadLot, wrong, Lot.counted, fork(), wrong)
        everything = {counter: 0 for counter in all_counters(fork())}
        self.fails(BadLot, everything, Lot.counted, fork(), everything)

    def test_values_that_are_no_integers(self):
        for value in [*ODD_VALUES, 1.0, "1", [1], (1,)]:
            for key in fork_counts(0, 0, 0, 0, 0):
                wrong = {**fork_counts(1, 0, 0, 1, 1), key: value}
                self.fails(BadLot, wrong, Lot.counted, fork(), wrong)

    def test_wrong_programs_are_told_first(self):
        for value in WRONG_PROGRAMS:
            self.fails(BadArgument, value, Lot.counted, value, fork_counts(0, 0, 0, 0, 0))
            self.fails(BadArgument, value, Lot.counted, value, None)
            self.fails(BadArgument, value, Lot.counted, counts=SOUR, program=value)

    def test_a_given_dict_is_neither_changed_nor_kept(self):
        counts = fork_counts(1, 2, 1, 2, 2)
        lot = Lot.counted(fork(), counts)
        self.assertEqual(counts, fork_counts(1, 2, 1, 2, 2))
        counts[("way", "x")] = 7
        counts.pop(("runs",))
        self.assertEqual(lot.counts(), fork_counts(1, 2, 1, 2, 2))

    def test_returned_dicts_belong_to_the_caller(self):
        lot = Lot.of(fork(), ["x"])
        lot.counts().clear()
        lot.counts()[("way", "x")] = 7
        self.assertEqual(lot.counts(), fork_counts(1, 0, 0, 1, 1))

    def test_dicts_of_a_finer_kind(self):
        given = collections.OrderedDict(fork_counts(1, 0, 0, 1, 1))
        self.assertIs(Lot.counted(fork(), given).counts().__class__, dict)


class ReadingTests(Checks):

    def test_wrong_counters(self):
        lot = Lot.of(fork(), ["x"])
        for value in [*ODD_VALUES, 0, "runs", "x", ["runs"], ("way",), ("way", "w"), ("way", "a"), ("place", "x"),
                      ("stop", "a"), ("way", SAME), (SOUR, "x"), ("runs", "x"), ("x",), slice(0, 1), -1]:
            self.fails(BadCounter, value, lambda: lot[value])

    def test_ways_in_a_lot(self):
        for program in programs():
            for runs in lots_of_runs(program):
                lot = Lot.of(program, *runs)
                for way in program.ways():
                    self.assertIs(way in lot, any(way in run for run in runs))
                    self.assertIs(way not in lot, not any(way in run for run in runs))

    def test_other_values_in_a_lot(self):
        lot = Lot.of(fork(), ["x", "z", "y"])
        for value in [*ODD_VALUES, 0, 1, "a", "b", "w", ("way", "x"), ["x"], ["x", "z", "y"], ("runs",), b"x"]:
            self.assertIs(value in lot, False)

    def test_a_lot_is_not_iterated_over(self):
        with self.assertRaises(TypeError):
            list(Lot.of(fork()))

    def test_equal_lots(self):
        for program in programs():
            for runs in lots_of_runs(program):
                for others in lots_of_runs(program):
                    same = counts_of(program, runs) == counts_of(program, others)
                    self.assertIs(Lot.of(program, *runs) == Lot.of(program, *others), same)
                    self.assertIs(Lot.of(program, *runs) != Lot.of(program, *others), not same)

    def test_lots_of_equal_and_unlike_programs(self):
        turned = Program({"z": ("b", "a"), "y": ("a", "b"), "x": ("a", "b")}, "a", ["b"])
        self.assertIs(Lot.of(turned, ["x"]) == Lot.of(fork(), ["x"]), True)
        self.assertIs(Lot.of(unlike_fork(), ["x"]) == Lot.of(fork(), ["x"]), False)
        ways = {"x": ("a", "b"), "y": ("b", "a")}
        made = [Program(ways, "a", ["a"]), Program(ways, "b", ["a"])]
        self.assertIs(Lot.of(made[0]) == Lot.of(made[1]), False)

    def test_values_of_other_classes(self):
        lot = Lot.of(fork(), ["x"])
        for value in [*ODD_VALUES, 0, fork(), lot.counts(), [["x"]], Counters(fork())]:
            self.assertIs(lot == value, False)
            self.assertIs(lot != value, True)
        self.assertIs(fork() == lot, False)


class SumAndTimesTests(Checks):

    def test_sums(self):
        for program in programs():
            for runs in lots_of_runs(program)[:8]:
                for others in lots_of_runs(program):
                    one, other = Lot.of(program, *runs), Lot.of(program, *others)
                    self.assertEqual(one + other, Lot.of(program, *runs, *others))
                    self.assertIs((one + other).__class__, Lot)
                    self.assertEqual((one, other), (Lot.of(program, *runs), Lot.of(program, *others)))

    def test_times(self):
        for program in programs():
            for runs in lots_of_runs(program):
                for many in (0, 1, 2, 5):
                    expected = Lot.of(program, *runs * many)
                    self.assertEqual(Lot.of(program, *runs) * many, expected)
                    self.assertEqual(many * Lot.of(program, *runs), expected)

    def test_great_numbers(self):
        lot = Lot.of(fork(), ["x", "z", "y"], ["y"])
        for many in (10**9, 10**30, 10**30 + 1, 10**40):
            expected = fork_counts(many, 2 * many, many, 2 * many, 2 * many)
            for great in (lot * many, many * lot, Lot.counted(fork(), expected)):
                self.assertEqual(great.counts(), expected)
                self.assertEqual((great.runs, great[("place", "a")]), (2 * many, 3 * many))
            self.assertNotEqual(lot * many, lot * (many + 1))
            self.assertEqual(lot * many + lot, lot * (many + 1))

    def test_none_times(self):
        lot = Lot.of(fork(), ["x", "z", "y"])
        self.assertEqual(lot * 0, Lot.of(fork()))
        self.assertEqual(0 * lot, Lot.of(fork()))
        self.assertEqual(lot * 1, lot)
        self.assertEqual(lot + Lot.of(fork()), lot)

    def test_other_names_keep_their_lots(self):
        lot = kept = Lot.of(fork(), ["x"])
        lot += Lot.of(fork(), ["y"])
        self.assertEqual(lot, Lot.of(fork(), ["x"], ["y"]))
        self.assertEqual(kept, Lot.of(fork(), ["x"]))
        grown = lot
        lot *= 3
        self.assertEqual(lot, Lot.of(fork(), *[["x"], ["y"]] * 3))
        self.assertEqual(grown, Lot.of(fork(), ["x"], ["y"]))
        lot += lot
        self.assertEqual(lot.runs, 12)
        lot *= 0
        self.assertEqual(lot, Lot.of(fork()))
        many = 2
        many *= kept
        self.assertEqual(many, Lot.of(fork(), ["x"], ["x"]))
        self.assertEqual(kept, Lot.of(fork(), ["x"]))

    def test_wrong_partners(self):
        lot = Lot.of(fork(), ["x"])
        for value in [*ODD_VALUES, 0, 1, fork(), Counters(fork()), lot.counts(), Lot.of(unlike_fork(), ["x"]),
                      Lot.of(loop())]:
            self.fails(BadArgument, value, lambda: lot + value)
            kept = lot
            with self.assertRaises(BadArgument) as caught:
                kept += value
            self.assertIs(caught.exception.value, value)
            self.assertIs(kept, lot)
            self.assertEqual(lot, Lot.of(fork(), ["x"]))

    def test_wrong_numbers(self):
        lot = Lot.of(fork(), ["x"])
        for value in NO_NUMBERS:
            self.fails(BadNumber, value, lambda: lot * value)
            if not isinstance(value, Lot):
                self.fails(BadNumber, value, lambda: value * lot)
            kept = lot
            with self.assertRaises(BadNumber) as caught:
                kept *= value
            self.assertIs(caught.exception.value, value)
            self.assertIs(kept, lot)
            self.assertEqual(lot, Lot.of(fork(), ["x"]))


class ValuesTests(Checks):

    def test_values_of_lots(self):
        for program in [*programs(), *small_programs(20)]:
            for runs in lots_of_runs(program):
                for counters in some_sets(program, 5):
                    expected = {counter: value_in(program, runs, counter) for counter in counters.listed()}
                    told = values_of(counters, Lot.of(program, *runs))
                    self.assertIs(told.__class__, dict)
                    self.assertEqual(told, expected)

    def test_none_and_everything(self):
        lot = Lot.of(fork(), ["x", "z", "y"])
        self.assertEqual(values_of(Counters(fork()), lot), {})
        self.assertEqual(values_of(lot=lot, counters=Counters.everything(fork())), {
            **fork_counts(1, 1, 1, 1, 1), ("place", "a"): 2, ("place", "b"): 2})

    def test_great_values(self):
        values = values_of(Counters.everything(fork()), Lot.of(fork(), ["x", "z", "y"]) * 10**40)
        self.assertEqual(values[("place", "b")], 2 * 10**40)

    def test_equal_programs(self):
        turned = Program({"z": ("b", "a"), "y": ("a", "b"), "x": ("a", "b")}, "a", ["b"])
        self.assertEqual(values_of(Counters(fork(), ("runs",)), Lot.of(turned, ["x"])), {("runs",): 1})

    def test_wrong_arguments(self):
        counters, lot = Counters(fork(), ("runs",)), Lot.of(fork())
        for value in [*ODD_VALUES, 0, fork(), lot, [("runs",)]]:
            self.fails(BadArgument, value, values_of, value, lot)
            self.fails(BadArgument, value, values_of, value, None)
            self.fails(BadArgument, value, values_of, lot=SOUR, counters=value)
        for value in [*ODD_VALUES, 0, fork(), counters, lot.counts(), Lot.of(unlike_fork()), Lot.of(loop())]:
            self.fails(BadArgument, value, values_of, counters, value)
            self.fails(BadArgument, value, values_of, lot=value, counters=counters)

    def test_the_dict_belongs_to_the_caller(self):
        counters, lot = Counters.everything(fork()), Lot.of(fork(), ["x"])
        values_of(counters, lot).clear()
        values_of(counters, lot)[("way", "x")] = 9
        self.assertEqual(values_of(counters, lot)[("way", "x")], 1)
        self.assertEqual(lot, Lot.of(fork(), ["x"]))


class BuiltTests(Checks):

    def is_built(self, lot):
        """Checks that the built runs are runs whose lot it is."""
        runs = lot.built()
        self.assertIs(runs.__class__, list)
        for run in runs:
            self.assertIs(run.__class__, list)
            self.assertTrue(is_run(lot.program, run), run)
        self.assertEqual(len(runs), lot.runs)
        self.assertEqual(Lot.of(lot.program, *runs), lot)
        self.assertEqual(counts_of(lot.program, runs), lot.counts())
        self.assertEqual(lot.built(), runs)

    def test_small_lots(self):
        for program in [*programs(), *small_programs(60), *small_programs(40, rings=False)]:
            for runs in lots_of_runs(program):
                self.is_built(Lot.of(program, *runs))
                self.is_built(Lot.of(program, *runs) * 3)

    def test_lots_of_great_programs(self):
        for program in great_programs():
            self.is_built(Lot.of(program, *some_runs(program)))
        self.is_built(Lot.of(wheel(40), wheel(40).ways() * 3 + wheel(40).ways()[:-1]))

    def test_none_and_empty_runs(self):
        self.only(Lot.of(fork()).built(), [])
        self.only(Lot.of(maze()).built(), [])
        self.only(Lot.of(maze(), []).built(), [[]])
        self.only(Lot.of(loop(), [], [], []).built(), [[], [], []])
        self.is_built(Lot.of(loop(), [], ["again"] * 5))
        self.is_built(Lot.of(maze(), [], ["over"], ["go", "stay", "back"], []))

    def test_rings_at_several_places(self):
        ways = ["at", "at", "on", "out", "back", "end", "end", "out", "back"]
        self.is_built(Lot.of(two_rings(), ways, ["on"]))
        knots = {"a": ("p", "p"), "b": ("p", "q"), "c": ("q", "q"), "d": ("q", "p"), "e": ("q", "r"), "f": ("r", "r"),
                 "g": ("r", "q")}
        counts = {("way", way): 2 for way in knots} | {("stop", "p"): 1, ("runs",): 1}
        self.is_built(Lot.counted(Program(knots, "p", ["p"]), counts))

    def test_two_thousand_ways(self):
        self.is_built(Lot.of(loop(), ["again"] * 2000))
        self.is_built(Lot.of(fork(), ["x"]) * 2000)
        self.is_built(Lot.of(fork(), ["x", "z"] * 999 + ["y"], ["y"]))
        self.is_built(Lot.of(ladder(20), ladder(20).ways()[:20]) * 100)
        for lot, many in ((Lot.of(loop(), ["again"] * 2001), 2001), (Lot.of(fork(), ["x"]) * 2001, 2001),
                          (Lot.of(diamond(), ["a", "q"], ["p", "s"]) * 501, 2004),
                          (Lot.of(fork(), ["x"]) * 10**30, 10**30),
                          (Lot.of(fork(), ["x", "z", "y"]) * 10**40, 3 * 10**40)):
            self.is_too_many(lot, many)

    def is_too_many(self, lot, many):
        """Checks that a lot is refused, and with which number."""
        with self.assertRaises(TooMany) as caught:
            lot.built()
        self.assertIs(caught.exception.__class__, TooMany)
        self.assertEqual(caught.exception.number, many)

    def test_two_thousand_runs(self):
        self.is_built(Lot.of(loop(), []) * 2000)
        self.is_built(Lot.of(loop(), []) * 1999 + Lot.of(loop(), ["again"] * 2000))
        self.is_too_many(Lot.of(loop(), []) * 2001, 2001)
        self.is_too_many(Lot.of(maze(), []) * 10**40, 10**40)
        self.is_too_many(Lot.of(loop(), []) * 2000 + Lot.of(loop(), ["again"] * 2000), 2001)

    def test_the_ways_are_told_ahead_of_the_runs(self):
        self.is_too_many(Lot.of(loop(), []) * 5000 + Lot.of(loop(), ["again"] * 2001), 2001)
        self.is_too_many(Lot.of(fork(), ["x", "z", "y"]) * 3000, 9000)

    def test_the_built_runs_belong_to_the_caller(self):
        lot = Lot.of(fork(), ["x", "z", "y"], ["y"])
        before = [list(run) for run in lot.built()]
        for run in lot.built():
            run.clear()
        lot.built().clear()
        self.assertEqual(lot.built(), before)

    def test_lots_of_words(self):
        wide = Program({word: ("a", "a") for word in words(40)}, "a", ["a"])
        self.is_built(Lot.of(wide, words(40) * 50))
        self.is_built(Lot.of(wide, *[[word] for word in words(40)], []))


if __name__ == "__main__":
    unittest.main()
