"""Tests of countededges.values."""

import collections
import fractions
import random
import unittest

from countededges.cheapest import cheapest
from countededges.counters import Counters, all_counters
from countededges.errors import BadArgument, BadValues, NotTold
from countededges.lots import Lot, values_of
from countededges.programs import Program
from countededges.telling import untold
from countededges.values import judged
from tests.points import even_rows, flow_value, own_counters, row_of, tells_all
from tests.samples import (
    ODD_VALUES, SAME, SOUR, Checks, all_programs, diamond, fork, great_programs, ladder, loop, maze, small_programs,
    some_runs, split, wheel)

OUTCOMES = ["lot", "flow", "below", "apart"]


def programs():
    """The programs that most tests here are about."""
    return [*all_programs(), split(), ladder(3), wheel(3), *small_programs(25), *small_programs(10, rings=False)]


def telling_sets(program, seed=1):
    """Some sets that tell all: everything, least ones, and least ones with more counters."""
    chance = random.Random(seed)
    known = all_counters(program)
    least = [cheapest(program, {counter: chance.randint(1, 9) for counter in known}) for at in range(2)]
    more = [one + Counters(program, *[counter for counter in chance.sample(known, 2) if counter not in one])
            for one in least]
    return [Counters.everything(program), *least, *more]


def solved(program, values):
    """The one flow with these values, or None, by solving all equations of point 6 and of the values."""
    rows = [[*row, 0] for row in even_rows(program)]
    rows += [[*row_of(program, counter), value] for counter, value in values.items()]
    rows = [[fractions.Fraction(number) for number in row] for row in rows]
    found = {}
    for at in range(len(own_counters(program))):
        pivot = next(row for row in rows if row[at] != 0 and not any(row[:at]))
        rows = [row if row is pivot or row[at] == 0 else
                [one - other * row[at] / pivot[at] for one, other in zip(row, pivot)] for row in rows]
        found[at] = rows.index(pivot)
    if any(row[-1] != 0 and not any(row[:-1]) for row in rows):
        return None
    flow = [rows[found[at]][-1] / rows[found[at]][at] for at in sorted(found)]
    if any(number.denominator != 1 for number in flow):
        return None
    return {counter: int(number) for counter, number in zip(own_counters(program), flow)}


def apart_by_words(program, flow):
    """The ways that are taken and hang apart, by the words of point 6."""
    taken = [way for way in program.ways() if flow[("way", way)] != 0]
    reached = [program.begin] if flow[("runs",)] != 0 else []
    for again in taken:
        reached += [program[way][1] for way in taken if program[way][0] in reached]
        reached = sorted(set(reached))
    return [way for way in taken if program[way][0] not in reached]


def judged_by_words(counters, values):
    """What point 13 and the interface say of values."""
    program = counters.program
    flow = solved(program, values)
    if flow is None:
        return ("flow",)
    for counter in all_counters(program):
        if flow_value(program, flow, counter) < 0:
            return ("below", counter, flow_value(program, flow, counter))
    apart = apart_by_words(program, flow)
    return ("apart", apart) if apart else ("lot", flow)


def fork_values(x, y, z, b, runs):
    """Values of the counters of ways and stops of fork(), and of runs."""
    return {("way", "x"): x, ("way", "y"): y, ("way", "z"): z, ("stop", "b"): b, ("runs",): runs}


def two_rings():
    """A program with two rings, each of one way, between three places."""
    ways = {"on": ("a", "b"), "off": ("b", "c"), "left": ("b", "b"), "over": ("c", "c"), "top": ("a", "c")}
    return Program(ways, "a", ["c"])


class JudgedTests(Checks):

    def is_judged(self, counters, values):
        """Checks what is told of values, and tells what it is."""
        before = list(values.items())
        told = judged(counters, values)
        self.assertEqual(list(values.items()), before)
        self.assertIs(told.__class__, tuple)
        expected = judged_by_words(counters, values)
        if expected[0] == "lot":
            self.assertEqual((told[0], len(told)), ("lot", 2))
            self.assertIs(told[1].__class__, Lot)
            self.assertEqual((told[1].program, told[1].counts()), (counters.program, expected[1]))
            self.assertEqual(values_of(counters, told[1]), values)
        else:
            self.assertEqual(told, expected)
            self.assertEqual([part.__class__ for part in told], [part.__class__ for part in expected])
        return told[0]

    def test_values_of_lots(self):
        for program in programs():
            self.assertTrue(all(tells_all(counters) for counters in telling_sets(program)))
            runs = some_runs(program, 5)[:8]
            lots = [Lot.of(program), Lot.of(program, *runs), *[Lot.of(program, run) for run in runs[:3]]]
            for counters in telling_sets(program):
                for lot in [*lots, lots[1] * 10**39]:
                    self.assertEqual(judged(counters, values_of(counters, lot)), ("lot", lot))
                    self.is_judged(counters, values_of(counters, lot))

    def test_any_values(self):
        seen = []
        for program in programs():
            for counters in telling_sets(program):
                for low, high in ((0, 1), (0, 3), (-2, 2), (0, 10**40)):
                    chance = random.Random(high)
                    for at in range(2):
                        seen.append(self.is_judged(counters, {
                            counter: chance.randint(low, high) for counter in counters.listed()}))
        for outcome in OUTCOMES:
            self.assertGreater(seen.count(outcome), 15, outcome)

    def test_values_of_flows_that_are_no_lot(self):
        seen = []
        for program in programs():
            runs = some_runs(program, 8)[:8]
            flows = [(Lot.of(program, one), Lot.of(program, *others)) for one, others in
                     ((runs[0], []), (runs[-1], []), (runs[-1], runs[:1]), (runs[0], runs[-1:]))]
            for counters in telling_sets(program):
                for more, less in flows:
                    seen.append(self.is_judged(counters, {
                        counter: more[counter] - less[counter] for counter in counters.listed()}))
                    seen.append(self.is_judged(counters, {
                        counter: less[counter] - more[counter] for counter in counters.listed()}))
        self.assertNotIn("flow", seen)
        for outcome in ("lot", "below", "apart"):
            self.assertGreater(seen.count(outcome), 15, outcome)

    def test_known_flows(self):
        ways = Counters(fork(), *fork_values(0, 0, 0, 0, 0))
        for values, told in (
                (fork_values(1, 0, 0, 1, 1), ("lot", Lot.of(fork(), ["x"]))),
                (fork_values(0, 0, 0, 0, 0), ("lot", Lot.of(fork()))),
                (fork_values(1, 0, 0, 1, 2), ("flow",)), (fork_values(1, 0, 0, 2, 1), ("flow",)),
                (fork_values(-1, 1, 0, 1, 0), ("flow",)), (fork_values(-1, 0, 0, 1, -1), ("flow",)),
                (fork_values(-1, 0, 0, -1, -1), ("below", ("way", "x"), -1)),
                (fork_values(5, -3, 0, 2, 2), ("below", ("way", "y"), -3)),
                (fork_values(1, 0, -2, 3, 3), ("below", ("way", "z"), -2)),
                (fork_values(-10**40, 10**40, 0, 0, 0), ("below", ("way", "x"), -10**40)),
                (fork_values(0, 1, 1, 0, 0), ("apart", ["y", "z"])),
                (fork_values(2, 1, 3, 0, 0), ("apart", ["x", "y", "z"]))):
            self.assertEqual(judged(ways, values), told)
            self.assertEqual(judged(values=dict(reversed(values.items())), counters=ways), told)

    def test_below_at_stops_and_runs(self):
        counters = Counters(loop(), ("way", "again"), ("runs",))
        self.assertEqual(judged(counters, {("way", "again"): 0, ("runs",): -1}), ("below", ("place", "home"), -1))
        self.assertEqual(judged(counters, {("way", "again"): 1, ("runs",): -1}), ("below", ("stop", "home"), -1))
        self.assertEqual(judged(counters, {("way", "again"): 5, ("runs",): -1}), ("below", ("stop", "home"), -1))
        begin = Program({"x": ("a", "b"), "y": ("b", "a")}, "a", ["a", "b"])
        some = Counters(begin, ("way", "x"), ("way", "y"), ("runs",))
        self.assertEqual(judged(some, {("way", "x"): 3, ("way", "y"): 3, ("runs",): -1}),
                         ("below", ("stop", "a"), -1))
        self.assertEqual(judged(some, {("way", "x"): 3, ("way", "y"): 2, ("runs",): -3}),
                         ("below", ("place", "a"), -1))
        ends = Program({"x": ("a", "b"), "y": ("a", "b"), "z": ("b", "c")}, "a", ["b", "c"])
        some = Counters(ends, ("way", "x"), ("way", "z"), ("runs",))
        self.assertEqual(judged(some, {("way", "x"): 1, ("way", "z"): 2, ("runs",): 1}), ("below", ("stop", "b"), -1))

    def test_runs_below(self):
        ring = Program({"x": ("a", "b"), "y": ("b", "a")}, "a", ["b"])
        counters = Counters(ring, ("way", "x"), ("way", "y"))
        self.assertEqual(judged(counters, {("way", "x"): 2, ("way", "y"): 3}), ("below", ("stop", "b"), -1))

    def test_what_is_told_first(self):
        everything = Counters.everything(two_rings())
        zeros = {counter: 0 for counter in everything.listed()}
        self.assertEqual(judged(everything, {**zeros, ("way", "on"): -1}), ("flow",))
        least = Counters.of_ways(two_rings(), "on", "left", "over", "top")
        ways = {("way", "on"): 0, ("way", "left"): 4, ("way", "over"): 0, ("way", "top"): -1}
        self.assertEqual(judged(least, ways), ("below", ("way", "top"), -1))

    def test_ways_that_hang_apart(self):
        least = Counters.of_ways(two_rings(), "on", "left", "over", "top")
        for on, left, over, top, apart in ((0, 3, 0, 1, ["left"]), (0, 0, 2, 0, ["over"]), (0, 1, 2, 0, ["left", "over"]),
                                           (0, 1, 2, 4, ["left"]), (0, 7, 0, 0, ["left"])):
            values = {("way", "on"): on, ("way", "left"): left, ("way", "over"): over, ("way", "top"): top}
            told = judged(least, values)
            self.assertEqual(told, ("apart", apart))
            told[1].clear()
            self.assertEqual(judged(least, values), ("apart", apart))
        values = {("way", "on"): 1, ("way", "left"): 3, ("way", "over"): 2, ("way", "top"): 0}
        self.assertEqual(judged(least, values)[0], "lot")

    def test_all_taken_ways_hang_apart_without_runs(self):
        counters = Counters.everything(maze())
        lot = Lot.of(maze(), ["go", "back"], ["over", "round", "back"])
        values = {counter: lot[counter] for counter in counters.listed()}
        values[("runs",)] = 0
        values[("stop", "in")] = 0
        values[("place", "in")] = 2
        self.assertEqual(judged(counters, values), ("apart", ["back", "go", "over", "round"]))

    def test_great_programs(self):
        for program in great_programs():
            counters = telling_sets(program)[2]
            lot = Lot.of(program, *some_runs(program)) * 10**38
            self.assertEqual(judged(counters, values_of(counters, lot)), ("lot", lot))
            self.is_judged(counters, {counter: -1 for counter in counters.listed()})

    def test_the_first_counter_that_is_not_told(self):
        for program in programs():
            for counters in (Counters(program), Counters(program, ("runs",)),
                             telling_sets(program)[1] - Counters(program, telling_sets(program)[1].listed()[0])):
                missing = untold(counters)
                if missing:
                    for values in ({counter: 1 for counter in counters.listed()}, None, SOUR, {}):
                        with self.assertRaises(NotTold) as caught:
                            judged(counters, values)
                        self.assertEqual(caught.exception.counter, missing[0])
        with self.assertRaises(NotTold) as caught:
            judged(Counters(fork(), ("way", "x"), ("runs",)), {("way", "x"): 1, ("runs",): 1})
        self.assertEqual(caught.exception.counter, ("way", "y"))

    def test_wrong_values(self):
        counters = Counters(fork(), ("way", "x"), ("way", "y"), ("runs",))
        right = {("way", "x"): 1, ("way", "y"): 1, ("runs",): 1}
        fewer = [{one: right[one] for one in right if one != key} for key in right]
        swapped = [{**one, other: 1} for one in fewer for other in
                   [("way", "z"), ("place", "a"), ("way", "w"), "runs", 0, None, (), SAME, (SAME,)]]
        odd = [{**right, key: value} for key in right for value in [*ODD_VALUES, 1.0, "1", [1]]]
        everything = {counter: 0 for counter in all_counters(fork())}
        for value in [*ODD_VALUES, 0, "values", list(right), list(right.items()), Lot.of(fork()), counters, *fewer,
                      *swapped, *odd, {**right, ("way", "z"): 1}, everything]:
            self.fails(BadValues, value, judged, counters, value)
            self.fails(BadValues, value, judged, values=value, counters=counters)

    def test_wrong_counters(self):
        for value in [*ODD_VALUES, 0, fork(), [("runs",)], Lot.of(fork())]:
            self.fails(BadArgument, value, judged, value, {})
            self.fails(BadArgument, value, judged, value, None)
            self.fails(BadArgument, value, judged, values=SOUR, counters=value)

    def test_given_values_are_not_kept(self):
        values = collections.OrderedDict(fork_values(1, 2, 1, 2, 2))
        told = judged(Counters(fork(), *values), values)
        values.clear()
        self.assertEqual(told, ("lot", Lot.of(fork(), ["x", "z", "y"], ["y"])))
        told[1].counts().clear()
        self.assertEqual(told[1].runs, 2)

    def test_equal_programs(self):
        turned = Program({way: diamond()[way] for way in reversed(diamond().ways())}, "a", ["d", "e"])
        for counters in telling_sets(diamond()):
            other = Counters(turned, *counters.listed()[::-1])
            values = {counter: 3 for counter in counters.listed()}
            self.assertEqual(judged(counters, values), judged(other, values))


if __name__ == "__main__":
    unittest.main()
