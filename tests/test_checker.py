"""Tests of countededges.checker."""

import copy
import itertools
import random
import unittest

from countededges import checker
from countededges.checker import cheapest_paper, fits, is_flow, log_paper, told_paper
from countededges.cheapest import cheapest
from countededges.counters import Counters, all_counters
from countededges.errors import BadArgument, BadCosts, BadCounter, NotTold
from countededges.logs import log_of, log_twins
from countededges.lots import Lot, values_of
from countededges.programs import Program
from countededges.telling import tells
from tests.points import is_even_flow, own_counters, part
from tests.samples import (
    KNOTTED, ODD_FULL_VALUES, ODD_VALUES, SAME, SOUR, Checks, all_programs, diamond, fork, great_programs, ladder, loop,
    maze, small_programs, some_runs, some_sets, split, wheel)

WRONG_COUNTERS = [*ODD_VALUES, 0, fork(), [("runs",)], (("runs",),), Lot.of(fork())]

# None of these is an integer.
NO_INTEGERS = [*ODD_VALUES, 1.0, 0.0, "1", [1], (1,), 10.5**30]

# None of these is a counter of fork().
NO_COUNTERS = [*ODD_VALUES, 0, "runs", "x", ["runs"], ["way", "x"], ("way",), ("way", "w"), ("way", "a"), ("place", "x"),
               ("stop", "a"), ("way", SAME), (SOUR, "x"), ("runs", "x"), ("way", "x", "y"), ("x",),
               Counters(fork(), ("runs",))]


def programs():
    """The programs that most tests here are about."""
    return [*all_programs(), split(), ladder(3), wheel(3), *small_programs(20), *small_programs(10, rings=False)]


def swapped(paper, at, value):
    """A paper with another part."""
    return (*paper[:at], value, *paper[at + 1:])


def with_item(table, key, value):
    """A dict with one thing put otherwise, or with one more."""
    return {**table, key: value}


def without(table, key):
    """A dict without a key."""
    return {one: table[one] for one in table if one != key}


def some():
    """A set of counters of fork() that tells some but not all."""
    return Counters(fork(), ("way", "x"), ("way", "z"), ("runs",))


def told_by_hand():
    """The way y of fork() is what leaves a, less the way x: the ways z and runs come to a."""
    return ("told", ("way", "y"), {("way", "x"): -1, ("way", "z"): 1, ("runs",): 1}, 1, {"a": 1, "b": 0})


def times(paper, many):
    """A paper of a sum with a divisor so many times as great."""
    return (*paper[:2], {counter: many * share for counter, share in paper[2].items()}, many * paper[3],
            {place: many * level for place, level in paper[4].items()})


def not_told_by_hand():
    """A flow of fork() round the ways x and z."""
    return ("not told", ("way", "x"), {("way", "x"): 1, ("way", "y"): 0, ("way", "z"): 1, ("stop", "b"): 0, ("runs",): 0})


def shown_by_words(counters, target, shares, divisor, levels):
    """Whether a sum is shown by levels, by the words of point 7, of integers at the right keys."""
    program = counters.program
    for step in own_counters(program):
        rest = divisor * part(program, target, step)
        rest -= sum(share * part(program, counter, step) for counter, share in shares.items())
        if step == ("runs",):
            drop = -levels[program.begin]
        elif step[0] == "stop":
            drop = levels[step[1]]
        else:
            drop = levels[program[step[1]][0]] - levels[program[step[1]][1]]
        if rest != drop:
            return False
    return True


def some_costs(program, most, seed=1):
    """Costs of all counters of a program, the same ones each time."""
    chance = random.Random(seed)
    return {counter: chance.randint(1, most) for counter in all_counters(program)}


class FlowTests(Checks):

    def test_counts_of_lots_and_what_is_between_them(self):
        for program in [*programs(), *great_programs()]:
            runs = some_runs(program, 5)[:6]
            lots = [Lot.of(program), *[Lot.of(program, run) for run in runs], Lot.of(program, *runs) * 10**39]
            for one, other in itertools.product(lots, lots[:3]):
                counts, less = one.counts(), other.counts()
                self.assertIs(is_flow(program, counts), True)
                between = {counter: counts[counter] - less[counter] for counter in counts}
                self.assertIs(is_flow(value=between, program=program), True)

    def test_any_integers(self):
        for program in programs():
            chance = random.Random(1)
            for low, high in ((0, 1), (-1, 1), (0, 0), (-10**40, 10**40)):
                for at in range(8):
                    flow = {counter: chance.randint(low, high) for counter in own_counters(program)}
                    self.assertIs(is_flow(program, flow), is_even_flow(program, flow))

    def test_one_thing_put_otherwise(self):
        for program in programs():
            right = Lot.of(program, *some_runs(program, 3)[:3]).counts()
            for counter in right:
                for value in (right[counter] + 1, right[counter] - 1, -10**40):
                    changed = with_item(right, counter, value)
                    self.assertIs(is_flow(program, changed), is_even_flow(program, changed))
                self.assertIs(is_flow(program, without(right, counter)), False)
            for more in (("place", program.begin), ("way", "none"), "runs", 0, None, SAME, (SAME,), ("stop", "none")):
                self.assertIs(is_flow(program, with_item(right, more, 0)), False)

    def test_wrong_values(self):
        right = {counter: 0 for counter in own_counters(fork())}
        for value in [*ODD_VALUES, 0, "flow", list(right), list(right.items()), Lot.of(fork()), fork()]:
            self.assertIs(is_flow(fork(), value), False)
        for counter in right:
            for value in NO_INTEGERS:
                self.assertIs(is_flow(fork(), with_item(right, counter, value)), False)
            for other in NO_COUNTERS:
                if other.__class__.__hash__ is not None and other.__class__ is not tuple:
                    self.assertIs(is_flow(fork(), with_item(without(right, counter), other, 0)), False)
        self.assertIs(is_flow(diamond(), right), False)

    def test_wrong_programs(self):
        for value in [*ODD_VALUES, 0, Counters(fork()), Lot.of(fork())]:
            self.fails(BadArgument, value, is_flow, value, {})
            self.fails(BadArgument, value, is_flow, value, None)
            self.fails(BadArgument, value, is_flow, value=SOUR, program=value)

    def test_a_given_flow_stays(self):
        flow = Lot.of(fork(), ["x"]).counts()
        before = list(flow.items())
        is_flow(fork(), flow)
        self.assertEqual(list(flow.items()), before)


class FitsChecks(Checks):
    """Checks of whether papers fit."""

    def fit(self, paper, counters):
        """Checks that a paper is right, and is as before."""
        before = copy.deepcopy(paper)
        self.assertIs(fits(paper, counters), True, paper)
        self.assertEqual(paper, before)

    def do_not_fit(self, papers, counters):
        """Checks that no paper of some is right."""
        for paper in papers:
            self.assertIs(fits(paper, counters), False)

    def does_not_fit_in_any_other_shape(self, paper, counters):
        """Checks that a right paper is none with a part less or more, as a list, or under another word."""
        kinds = ["told", "not told", "two runs", "one count", "same log", "cheapest"]
        others = [(kind, *paper[1:]) for kind in [*kinds, *ODD_VALUES, "Told", "told ", 0] if kind is SAME or kind is SOUR
                  or kind != paper[0]]
        alike = [("same log", "two runs"), ("two runs", "same log")]
        others = [other for other in others if other[0].__class__ is not str or (paper[0], other[0]) not in alike]
        self.do_not_fit([list(paper), paper[:-1], paper[1:], (*paper, None), (*paper, paper[-1]), (paper,), [paper],
                         dict(enumerate(paper)), *[paper[:many] for many in range(len(paper))], *others], counters)
        for at in range(1, len(paper)):
            self.do_not_fit([swapped(paper, at, value) for value in [*ODD_FULL_VALUES, 0, "x", paper]], counters)


class ToldTests(FitsChecks):

    def test_right_by_hand(self):
        paper = told_by_hand()
        self.fit(paper, some())
        self.fit(times(paper, 2), some())
        self.fit(times(paper, 10**39), some())
        self.fit(paper, some() + Counters(fork(), ("place", "b"), ("way", "y")))
        self.assertIs(fits(counters=some(), paper=paper), True)

    def test_right_with_some_shares_left_out(self):
        everything = Counters.everything(fork())
        self.fit(("told", ("runs",), {("runs",): 1}, 1, {"a": 0, "b": 0}), everything)
        self.fit(("told", ("runs",), {("runs",): 7}, 7, {"a": 0, "b": 0}), everything)
        self.fit(("told", ("runs",), {("stop", "b"): 1}, 1, {"a": -1, "b": -1}), everything)
        self.fit(("told", ("runs",), {("stop", "b"): 1, ("way", "x"): 0}, 1, {"a": -1, "b": -1}), everything)
        self.fit(("told", ("runs",), {("stop", "b"): 1, ("runs",): 1}, 2, {"a": -1, "b": -1}), everything)
        self.fit(("told", ("place", "a"), {("way", "z"): 1, ("runs",): 1}, 1, {"a": 0, "b": 0}), everything)
        self.fit(("told", ("place", "b"), {("place", "a"): 1}, 1, {"a": 1, "b": 0}), everything)
        self.do_not_fit([("told", ("runs",), {}, 1, {"a": 0, "b": 0}), ("told", ("runs",), {("runs",): 1}, 2, {
            "a": 0, "b": 0})], everything)

    def test_each_told_target(self):
        for program in programs():
            for counters in some_sets(program, 3):
                for target in all_counters(program):
                    paper = told_paper(counters, target)
                    self.assertEqual(paper[0] == "told", tells(counters, target))
                    self.fit(paper, counters)
                    if paper[0] == "told":
                        self.fit(times(paper, 3), counters)
                        lean = {counter: share for counter, share in paper[2].items() if share != 0}
                        self.fit(swapped(paper, 2, lean), counters)

    def test_one_number_put_otherwise(self):
        seen = []
        for program in programs()[:20]:
            counters = Counters.everything(program) - Counters(program, ("runs",), ("way", program.ways()[0]))
            for target in all_counters(program):
                paper = times(told_paper(counters, target), 2) if tells(counters, target) else ("not told",)
                if paper[0] == "told":
                    changed = [swapped(paper, 2, with_item(paper[2], counter, paper[2][counter] + gap))
                               for counter in counters.listed() for gap in (1, -2)]
                    changed += [swapped(paper, 3, divisor) for divisor in (1, 3, 4)]
                    changed += [swapped(paper, 4, with_item(paper[4], place, paper[4][place] + gap))
                                for place in program.places() for gap in (1, -2)]
                    for other in changed:
                        expected = shown_by_words(counters, *other[1:])
                        seen.append(expected)
                        self.assertIs(fits(other, counters), expected)
        self.assertIn(False, seen)

    def test_a_divisor_of_zero_or_below(self):
        zeros = {"a": 0, "b": 0}
        self.do_not_fit([("told", ("way", "x"), {}, 0, zeros), ("told", ("way", "x"), {("way", "x"): 0}, 0, zeros),
                         ("told", ("way", "x"), {("way", "x"): -1}, -1, zeros), times(told_by_hand(), 0),
                         times(told_by_hand(), -1)], some())
        self.do_not_fit([swapped(told_by_hand(), 3, value) for value in NO_INTEGERS], some())

    def test_wrong_targets(self):
        self.do_not_fit([swapped(told_by_hand(), 1, value) for value in [
            *NO_COUNTERS, ("way", "x"), ("way", "z"), ("runs",), ("place", "a"), ("stop", "b")]], some())

    def test_wrong_shares(self):
        paper = told_by_hand()
        for counter in paper[2]:
            self.do_not_fit([swapped(paper, 2, without(paper[2], counter))], some())
            self.do_not_fit([swapped(paper, 2, with_item(paper[2], counter, value)) for value in NO_INTEGERS], some())
        for more in (("way", "y"), ("place", "a"), ("stop", "b"), ("way", "w"), "runs", 0, None, SAME, (SAME,)):
            self.do_not_fit([swapped(paper, 2, with_item(paper[2], more, 0))], some())
        self.do_not_fit([swapped(paper, 2, value) for value in [*ODD_VALUES, list(paper[2].items())]], some())
        # All shares but for a counter that is not in the set any more.
        self.do_not_fit([paper], some() - Counters(fork(), ("runs",)))
        self.do_not_fit([swapped(paper, 2, {})], some())

    def test_wrong_levels(self):
        paper = told_by_hand()
        for place in paper[4]:
            self.do_not_fit([swapped(paper, 4, without(paper[4], place))], some())
            self.do_not_fit([swapped(paper, 4, with_item(paper[4], place, value)) for value in NO_INTEGERS], some())
            self.do_not_fit([swapped(paper, 4, with_item(without(paper[4], place), "c", paper[4][place]))], some())
        for more in ("c", "x", 0, None, ("a",), ("place", "a"), SAME):
            self.do_not_fit([swapped(paper, 4, with_item(paper[4], more, 0))], some())
        self.do_not_fit([swapped(paper, 4, {place: level + 1 for place, level in paper[4].items()})], some())

    def test_other_programs(self):
        other = Program({"x": ("a", "b"), "y": ("a", "b"), "z": ("b", "b")}, "a", ["b"])
        self.do_not_fit([told_by_hand()], Counters(other, ("way", "x"), ("way", "z"), ("runs",)))
        self.do_not_fit([told_by_hand()], Counters.everything(diamond()))

    def test_other_shapes(self):
        self.does_not_fit_in_any_other_shape(told_by_hand(), some())


class NotToldTests(FitsChecks):

    def test_right_by_hand(self):
        paper = not_told_by_hand()
        for counters in (Counters(fork()), Counters(fork(), ("way", "y"), ("stop", "b"), ("runs",))):
            self.fit(paper, counters)
            self.fit(swapped(paper, 1, ("way", "z")), counters)
            self.fit(swapped(paper, 1, ("place", "a")), counters)
            self.fit(swapped(paper, 2, {counter: -10**40 * count for counter, count in paper[2].items()}), counters)

    def test_a_counter_of_the_set_that_is_not_zero(self):
        for counter in (("way", "x"), ("way", "z"), ("place", "a"), ("place", "b")):
            self.do_not_fit([not_told_by_hand()], Counters(fork(), counter))
            self.do_not_fit([swapped(not_told_by_hand(), 1, ("way", "x"))], Counters(fork(), ("way", "y"), counter))

    def test_targets_that_are_zero_or_none(self):
        self.do_not_fit([swapped(not_told_by_hand(), 1, value) for value in [
            *NO_COUNTERS, ("way", "y"), ("stop", "b"), ("runs",)]], Counters(fork()))
        zeros = {counter: 0 for counter in own_counters(fork())}
        self.do_not_fit([("not told", target, zeros) for target in all_counters(fork())], Counters(fork()))

    def test_what_is_no_flow(self):
        paper = not_told_by_hand()
        for counter in paper[2]:
            changed = [without(paper[2], counter), *[with_item(paper[2], counter, value) for value in [
                *NO_INTEGERS, paper[2][counter] + 1, paper[2][counter] - 2, 10**40]]]
            self.do_not_fit([swapped(paper, 2, value) for value in changed], Counters(fork()))
        for more in (("place", "a"), ("way", "w"), ("stop", "a"), "runs", None, SAME):
            self.do_not_fit([swapped(paper, 2, with_item(paper[2], more, 0))], Counters(fork()))
        self.do_not_fit([paper], Counters(diamond()))
        self.do_not_fit([swapped(paper, 2, value) for value in ODD_VALUES], Counters(fork()))

    def test_other_shapes(self):
        self.does_not_fit_in_any_other_shape(not_told_by_hand(), Counters(fork()))


class RunsTests(FitsChecks):

    def test_against_all_short_runs(self):
        seen = []
        for program in programs()[:24]:
            runs = some_runs(program, 6)[:7]
            for counters in some_sets(program, 3):
                for one, other in itertools.product(runs, runs):
                    values = [values_of(counters, Lot.of(program, run)) for run in (one, other)]
                    same, unlike = values[0] == values[1], one != other
                    self.assertIs(fits(("two runs", one, other), counters), same and unlike)
                    logs = log_of(counters, one) == log_of(counters, other)
                    self.assertIs(fits(("same log", one, other), counters), logs and unlike)
                    seen.append((same and unlike, logs and unlike))
                    for target in all_counters(program)[::3]:
                        apart = Lot.of(program, one)[target] != Lot.of(program, other)[target]
                        self.assertIs(fits(("one count", target, one, other), counters), same and apart)
        self.assertEqual(set(seen), {(False, False), (True, False), (True, True)})

    def test_same_values_with_unlike_logs(self):
        one, other = ["x", "z", "y"], ["y", "z", "x"]
        everything = Counters.everything(fork())
        self.fit(("two runs", one, other), everything)
        self.do_not_fit([("same log", one, other)], everything)
        self.do_not_fit([("one count", target, one, other) for target in all_counters(fork())], everything)
        self.fit(("same log", one, other), Counters(fork(), ("place", "a"), ("way", "z"), ("runs",)))

    def test_same_logs(self):
        counters = Counters(diamond(), ("runs",))
        self.fit(("same log", ["a", "q"], ["p", "s"]), counters)
        self.fit(("one count", ("way", "s"), ["a", "q"], ["p", "s"]), counters)
        self.fit(("one count", ("stop", "d"), ["a", "q"], ["p", "s"]), counters)
        self.do_not_fit([("one count", ("way", "r"), ["a", "q"], ["p", "s"]),
                         ("one count", ("runs",), ["a", "q"], ["p", "s"])], counters)

    def test_what_are_no_runs(self):
        counters = Counters(fork())
        for kind in (("two runs",), ("same log",), ("one count", ("way", "x"))):
            self.fit((*kind, ["x"], ["y"]), counters)
            for value in [*ODD_VALUES, 0, "x", ("x",), ["z"], ["x", "z"], ["x", "y"], ["x", SOUR], [SAME], [["x"]], {"x": 1},
                          ["w"], ["x", None], KNOTTED]:
                self.do_not_fit([(*kind, value, ["x"]), (*kind, ["y"], value), (*kind, value, value)], counters)
            self.do_not_fit([(*kind, ["x"], ["x"]), (*kind, ["x", "z", "y"], ["x", "z", "y"])], counters)

    def test_wrong_targets(self):
        paper = ("one count", ("way", "x"), ["x"], ["y"])
        self.fit(paper, Counters(fork(), ("place", "a")))
        self.do_not_fit([swapped(paper, 1, value) for value in NO_COUNTERS], Counters(fork(), ("place", "a")))
        self.do_not_fit([paper], Counters(fork(), ("way", "y")))

    def test_other_shapes(self):
        for paper in (("two runs", ["x"], ["y"]), ("same log", ["x"], ["y"]), ("one count", ("way", "x"), ["x"], ["y"])):
            self.does_not_fit_in_any_other_shape(paper, Counters(fork(), ("runs",)))


class CheapestTests(FitsChecks):

    def row(self):
        """A row of one way, its set, and a right paper: the way x is counted for 2, the place b would cost 2, too."""
        row = Program.row("x")
        counters = Counters(row, ("way", "x"))
        costs = {("way", "x"): 2, ("place", "b"): 2, ("runs",): 5}
        share = {("way", "x"): 1}
        shown = {("place", "a"): (share, 1, {"a": -1, "b": 0}), ("place", "b"): (share, 1, {"a": 0, "b": 0}),
                 ("stop", "b"): (share, 1, {"a": 0, "b": 1}), ("runs",): (share, 1, {"a": -1, "b": 0})}
        flows = {("way", "x"): {("way", "x"): 1, ("stop", "b"): 1, ("runs",): 1}}
        return counters, ("cheapest", costs, shown, flows)

    def test_right_by_hand(self):
        counters, paper = self.row()
        self.fit(paper, counters)
        thrice = {target: ({("way", "x"): 3}, 3, {place: 3 * level for place, level in levels.items()})
                  for target, (share, divisor, levels) in paper[2].items()}
        self.fit(swapped(paper, 2, thrice), counters)
        self.fit(swapped(paper, 3, {("way", "x"): {("way", "x"): -10**40, ("stop", "b"): -10**40, ("runs",): -10**40}}),
                 counters)
        self.fit(swapped(paper, 1, {("way", "x"): 10**40}), counters)

    def test_made_papers(self):
        for program in programs():
            for most, seed in ((1, 1), (3, 2), (10**40, 3)):
                costs = some_costs(program, most, seed)
                paper = cheapest_paper(program, costs)
                counters = cheapest(program, costs)
                self.fit(paper, counters)
                self.do_not_fit([paper], Counters.everything(program))
                self.do_not_fit([paper], Counters(program))

    def test_wrong_costs(self):
        counters, paper = self.row()
        costs = paper[1]
        for value in [*ODD_VALUES, {}, without(costs, ("way", "x")), list(costs.items()),
                      with_item(costs, ("way", "y"), 1), with_item(costs, "runs", 1), with_item(costs, SAME, 1)]:
            self.do_not_fit([swapped(paper, 1, value)], counters)
        for counter in costs:
            self.do_not_fit([swapped(paper, 1, with_item(costs, counter, value)) for value in [*NO_INTEGERS, 0, -1]],
                            counters)

    def test_shares_at_dearer_counters(self):
        counters, paper = self.row()
        costs = paper[1]
        for counter in (("place", "b"), ("runs",), ("place", "a"), ("stop", "b")):
            self.fit(swapped(paper, 1, with_item(costs, counter, 2)), counters)
            self.do_not_fit([swapped(paper, 1, with_item(costs, counter, 1))], counters)
        self.do_not_fit([swapped(paper, 1, with_item(costs, ("way", "x"), 3))], counters)
        self.fit(swapped(paper, 1, {("way", "x"): 3, ("runs",): 3}), counters)

    def test_shares_at_several_counters(self):
        pair = Program({"p": ("a", "b"), "q": ("a", "b")}, "a", ["b"])
        ways = Counters.of_ways(pair, "p", "q")
        both = {("way", "p"): 1, ("way", "q"): 1}
        shown = {("place", "a"): (both, 1, {"a": -1, "b": 0}), ("place", "b"): (both, 1, {"a": 0, "b": 0}),
                 ("stop", "b"): (both, 1, {"a": 0, "b": 1}), ("runs",): (both, 1, {"a": -1, "b": 0})}
        flows = {("way", one): {("way", one): 1, ("way", other): 0, ("stop", "b"): 1, ("runs",): 1}
                 for one, other in ("pq", "qp")}
        right = ("cheapest", {("way", "p"): 1, ("way", "q"): 2, ("runs",): 2}, shown, flows)
        self.fit(right, ways)
        for costs in ({("way", "p"): 1, ("way", "q"): 3, ("runs",): 2}, {("way", "p"): 3, ("way", "q"): 2, ("runs",): 2},
                      {("way", "p"): 1, ("way", "q"): 2, ("runs",): 2, ("place", "a"): 1}):
            self.do_not_fit([swapped(right, 1, costs)], ways)

    def test_shares_of_zero_at_dearer_counters(self):
        program = Program({"p": ("a", "b"), "q": ("a", "c"), "r": ("b", "c")}, "a", ["c"])
        counters = Counters.of_ways(program, "p", "q")
        paper = cheapest_paper(program, {("way", "p"): 1, ("way", "q"): 9})
        self.fit(paper, counters)
        levels = {"a": 0, "b": 1, "c": 0}
        for shares in ({("way", "p"): 1, ("way", "q"): 0}, {("way", "p"): 1}):
            shown = with_item(paper[2], ("way", "r"), (shares, 1, levels))
            self.fit(("cheapest", {("way", "p"): 1, ("way", "q"): 9, ("way", "r"): 1}, shown, paper[3]), counters)
            self.do_not_fit([("cheapest", {("way", "p"): 2, ("way", "q"): 9, ("way", "r"): 1}, shown, paper[3])], counters)

    def test_wrong_shown(self):
        counters, paper = self.row()
        shown = paper[2]
        self.do_not_fit([swapped(paper, 2, value) for value in [*ODD_VALUES, list(shown.items()), {}]], counters)
        for target in shown:
            share, divisor, levels = shown[target]
            wrong = [(share, divisor), (share, divisor, levels, None), [share, divisor, levels], (share, 2, levels),
                     (share, 0, levels), ({}, divisor, levels), (with_item(share, ("runs",), 0), divisor, levels),
                     (share, divisor, with_item(levels, "a", 7)), (share, divisor, with_item(levels, "c", 0)),
                     (share, divisor, without(levels, "b")), ("told", target, share, divisor, levels),
                     (share, True, levels), (with_item(share, ("way", "x"), True), divisor, levels), *ODD_VALUES]
            self.do_not_fit([swapped(paper, 2, with_item(shown, target, value)) for value in wrong], counters)
            self.do_not_fit([swapped(paper, 2, without(shown, target))], counters)
        for more in (("way", "x"), ("way", "y"), "runs", None, SAME):
            self.do_not_fit([swapped(paper, 2, with_item(shown, more, ({("way", "x"): 1}, 1, {"a": 0, "b": 0})))], counters)

    def test_wrong_flows(self):
        counters, paper = self.row()
        flow = paper[3][("way", "x")]
        self.do_not_fit([swapped(paper, 3, value) for value in [
            *ODD_VALUES, {}, flow, with_item(paper[3], ("runs",), flow), with_item(paper[3], ("way", "y"), flow),
            {("runs",): flow}, [(("way", "x"), flow)]]], counters)
        zeros = {counter: 0 for counter in flow}
        wrong = [zeros, without(flow, ("runs",)), with_item(flow, ("place", "a"), 1), with_item(flow, ("runs",), 2),
                 with_item(flow, ("runs",), True), *ODD_VALUES]
        self.do_not_fit([swapped(paper, 3, {("way", "x"): value}) for value in wrong], counters)

    def test_flows_that_are_not_zero_for_others(self):
        for program in programs():
            costs = some_costs(program, 4)
            counters, paper = cheapest(program, costs), cheapest_paper(program, costs)
            listed = counters.listed()
            for one, other in zip(listed, listed[1:]):
                flow = paper[3][one]
                both = {step: flow[step] + paper[3][other][step] for step in flow}
                self.do_not_fit([swapped(paper, 3, with_item(paper[3], one, both))], counters)
                self.do_not_fit([swapped(paper, 3, with_item(paper[3], one, paper[3][other]))], counters)
                twice = {step: -2 * flow[step] for step in flow}
                self.fit(swapped(paper, 3, with_item(paper[3], one, twice)), counters)

    def test_a_set_with_one_counter_too_many(self):
        counters, paper = self.row()
        more = counters + Counters(counters.program, ("runs",))
        shown = without(paper[2], ("runs",))
        flow = paper[3][("way", "x")]
        self.do_not_fit([("cheapest", paper[1], shown, {("way", "x"): flow, ("runs",): flow})], more)

    def test_other_shapes(self):
        counters, paper = self.row()
        self.does_not_fit_in_any_other_shape(paper, counters)


class AnyPaperTests(FitsChecks):

    def test_values_that_are_no_papers(self):
        for counters in (Counters(fork()), some(), Counters.everything(maze())):
            self.do_not_fit([*ODD_VALUES, 0, "told", ("told",), [("told",)], {"told": 1}, fork(), counters, Lot.of(fork()),
                             (SAME,), (SOUR, SOUR, SOUR), (SAME, SAME, SAME), (SAME, SAME, SAME, SAME),
                             (SAME, SAME, SAME, SAME, SAME), (KNOTTED, KNOTTED, KNOTTED), (["told"], 1, 2, 3, 4)], counters)

    def test_papers_of_values_of_all_kinds(self):
        for kind, many in (("told", 4), ("not told", 2), ("two runs", 2), ("one count", 3), ("same log", 2), ("cheapest", 3)):
            for values in itertools.product([None, SOUR, SAME, {}, [], ("runs",), 1, KNOTTED, {("runs",): SOUR}],
                                            repeat=min(many, 3)):
                paper = (kind, *values, *values[:many - len(values)])
                for counters in (Counters(fork()), Counters(fork(), ("runs",)), Counters.everything(fork())):
                    self.assertIs(fits(paper, counters), False)

    def test_wrong_counters(self):
        for value in WRONG_COUNTERS:
            self.fails(BadArgument, value, fits, told_by_hand(), value)
            self.fails(BadArgument, value, fits, counters=value, paper=None)
            self.fails(BadArgument, value, fits, SOUR, value)

    def test_the_checker_finds_nothing_by_itself(self):
        # Whatever looks for sums, flows, runs or sets fails while papers are judged.
        papers = [(told_by_hand(), some()), (not_told_by_hand(), Counters(fork())),
                  (("same log", ["x"], ["y"]), Counters(fork())), (("two runs", ["x"], ["y"]), Counters(fork())),
                  (cheapest_paper(maze(), some_costs(maze(), 5)), cheapest(maze(), some_costs(maze(), 5)))]
        names = ["sum_for", "flow_for", "cheapest", "log_twins"]
        kept = {name: vars(checker)[name] for name in names}
        try:
            for name in names:
                setattr(checker, name, None)
            for paper, counters in papers:
                self.fit(paper, counters)
        finally:
            for name in names:
                setattr(checker, name, kept[name])


class MadePapersTests(FitsChecks):

    def test_told_papers_by_name(self):
        self.assertEqual(told_paper(target=("way", "y"), counters=some())[:2], ("told", ("way", "y")))
        self.assertEqual(told_paper(target=("way", "y"), counters=Counters(fork()))[:2], ("not told", ("way", "y")))

    def test_log_papers(self):
        seen = []
        for program in [*programs(), *great_programs()]:
            for counters in some_sets(program, 4):
                paper = log_paper(counters)
                seen.append(paper is None)
                if log_twins(counters) is None:
                    self.assertIsNone(paper)
                else:
                    self.assertEqual(paper[0], "same log")
                    self.fit(paper, counters)
                self.assertEqual(log_paper(counters=counters), paper)
        self.assertEqual(set(seen), {True, False})

    def test_great_programs(self):
        for program in great_programs():
            costs = some_costs(program, 9)
            counters = cheapest(program, costs)
            self.fit(cheapest_paper(program, costs), counters)
            for target in all_counters(program)[::9]:
                self.fit(told_paper(counters, target), counters)
                self.fit(told_paper(Counters(program), target), Counters(program))

    def test_costs_of_few_counters(self):
        for program in programs():
            costs = some_costs(program, 5)
            few = {counter: costs[counter] for counter in cheapest(program, costs).listed()}
            paper = cheapest_paper(costs=few, program=program)
            self.assertEqual(paper[1], few)
            self.fit(paper, Counters(program, *few))
            fewer = dict(list(few.items())[1:])
            with self.assertRaises(NotTold) as caught:
                cheapest_paper(program, fewer)
            with self.assertRaises(NotTold) as again:
                cheapest(program, fewer)
            self.assertEqual(caught.exception.counter, again.exception.counter)

    def test_papers_belong_to_the_caller(self):
        def changed(paper):
            before = copy.deepcopy(paper)
            for part in paper[1:]:
                if isinstance(part, (dict, list)):
                    for inner in part.values() if isinstance(part, dict) else []:
                        for table in inner if isinstance(inner, tuple) else [inner]:
                            if isinstance(table, dict):
                                table.clear()
                    part.clear()
            return before
        costs = some_costs(maze(), 5)
        kept = dict(costs)
        for call in (lambda: told_paper(some(), ("way", "y")), lambda: told_paper(Counters(fork()), ("way", "y")),
                     lambda: log_paper(Counters(fork())), lambda: cheapest_paper(maze(), costs)):
            before = changed(call())
            self.assertEqual(call(), before)
        self.assertEqual(costs, kept)
        paper = cheapest_paper(maze(), costs)
        costs.clear()
        self.assertEqual(paper[1], kept)
        self.fit(paper, cheapest(maze(), kept))

    def test_wrong_arguments(self):
        for value in WRONG_COUNTERS:
            self.fails(BadArgument, value, told_paper, value, ("runs",))
            self.fails(BadArgument, value, told_paper, target=SOUR, counters=value)
            self.fails(BadArgument, value, log_paper, value)
            self.fails(BadArgument, value, log_paper, counters=value)
        for value in NO_COUNTERS:
            self.fails(BadCounter, value, told_paper, some(), value)
            self.fails(BadCounter, value, told_paper, target=value, counters=Counters.everything(fork()))
        for value in [*ODD_VALUES, 0, Counters(fork())]:
            self.fails(BadArgument, value, cheapest_paper, value, {("runs",): 1})
            self.fails(BadArgument, value, cheapest_paper, costs=SOUR, program=value)
        for value in [*ODD_FULL_VALUES, {("runs",): 0}, {("runs",): True}, {("way", "w"): 1}, [("runs",)]]:
            self.fails(BadCosts, value, cheapest_paper, fork(), value)
            self.fails(BadCosts, value, cheapest_paper, costs=value, program=fork())
        with self.assertRaises(NotTold) as caught:
            cheapest_paper(loop(), {})
        self.assertEqual(caught.exception.counter, ("way", "again"))


if __name__ == "__main__":
    unittest.main()
