"""Tests of countededges.telling."""

import doctest
import itertools
import unittest

from countededges.counters import Counters, all_counters
from countededges.errors import BadArgument, BadCounter, BadValues
from countededges.lots import Lot, values_of
from countededges.programs import Program
from countededges.telling import Sum, flow_for, lots_for, sum_for, tells, untold
from tests.points import even_rows, flow_value, is_told, own_counters, part
from tests.samples import (
    ODD_VALUES, SAME, SOUR, Checks, all_programs, diamond, fork, great_programs, ladder, loop, maze, small_programs,
    some_runs, some_sets, split, wheel, words)

EXAMPLE = """
>>> from countededges.programs import Program, runs_to
>>> fork = Program({"x": ("a", "b"), "y": ("a", "b"), "z": ("b", "a")}, "a", ["b"])
>>> from countededges.counters import Counters
>>> from countededges.telling import tells, untold
>>> some = Counters(fork, ("way", "x"), ("runs",))
>>> (untold(some), tells(some, ("way", "y")))
([('way', 'y'), ('way', 'z'), ('place', 'a'), ('place', 'b')], False)
"""

WRONG_COUNTERS = [*ODD_VALUES, 0, fork(), [("runs",)], (("runs",),), Lot.of(fork())]

NO_TARGETS = [*ODD_VALUES, 0, "runs", "x", ["runs"], ("way",), ("way", "w"), ("way", "a"), ("place", "x"),
              ("stop", "a"), ("way", SAME), (SOUR, "x"), ("runs", "x"), ("x",), Counters(fork(), ("runs",))]


def programs():
    """The programs that most tests here are about."""
    late = Program({"x": ("z", "a"), "y": ("z", "a")}, "z", ["z", "a"])
    return [*all_programs(), late, split(), ladder(3), wheel(3), *small_programs(50), *small_programs(25, rings=False)]


def cases(many=6):
    """Programs with some sets of their counters each."""
    return [(program, counters) for program in programs() for counters in some_sets(program, many)]


class TellingChecks(Checks):
    """Checks of one answer, by points 6 and 7 alone."""

    def shows(self, counters, target, told):
        """Checks that a sum is shown by its levels."""
        program = counters.program
        self.assertIs(told.__class__, Sum)
        self.assertEqual((told.target, list(told.shares())), (target, counters.listed()))
        self.assertEqual(sorted(told.levels()), program.places())
        numbers = [told.divisor, *told.shares().values(), *told.levels().values()]
        self.assertTrue(all(number.__class__ is int for number in numbers))
        self.assertGreater(told.divisor, 0)
        levels = told.levels()
        for step in own_counters(program):
            rest = told.divisor * part(program, target, step)
            rest -= sum(share * part(program, counter, step) for counter, share in told.shares().items())
            if step[0] == "way":
                source, goal = program[step[1]]
                self.assertEqual(rest, levels[source] - levels[goal])
            else:
                self.assertEqual(rest, -levels[program.begin] if step == ("runs",) else levels[step[1]])

    def is_flow(self, counters, target, flow):
        """Checks that a flow is one, 0 for the set and not for the target."""
        program = counters.program
        self.assertIs(flow.__class__, dict)
        self.assertEqual(sorted(flow), sorted(own_counters(program)))
        self.assertTrue(all(number.__class__ is int for number in flow.values()))
        for row in even_rows(program):
            self.assertEqual(sum(share * flow[step] for share, step in zip(row, own_counters(program))), 0)
        for counter in counters.listed():
            self.assertEqual(flow_value(program, flow, counter), 0)
        self.assertNotEqual(flow_value(program, flow, target), 0)

    def are_lots(self, counters, target, lots):
        """Checks that two lots have the same values and unlike ones for the target."""
        self.assertIs(lots.__class__, tuple)
        one, other = lots
        for lot in lots:
            self.assertIs(lot.__class__, Lot)
            self.assertEqual(lot.program, counters.program)
            self.assertEqual(Lot.counted(counters.program, lot.counts()), lot)
        self.assertEqual(values_of(counters, one), values_of(counters, other))
        self.assertNotEqual(one[target], other[target])

    def is_decided(self, counters, target, told):
        """Checks all answers for a target, whether it is told or not."""
        self.assertIs(tells(counters, target), told)
        if told:
            self.shows(counters, target, sum_for(counters, target))
            self.assertIsNone(flow_for(counters, target))
            self.assertIsNone(lots_for(counters, target))
        else:
            self.assertIsNone(sum_for(counters, target))
            self.is_flow(counters, target, flow_for(counters, target))
            self.are_lots(counters, target, lots_for(counters, target))


class ExampleTests(unittest.TestCase):

    def test_the_example_of_the_document(self):
        example = doctest.DocTestParser().get_doctest(EXAMPLE, {}, "example", None, None)
        ran = doctest.DocTestRunner().run(example)
        self.assertEqual((ran.failed, ran.attempted), (0, 6))


class DecidingTests(TellingChecks):

    def test_each_target_of_some_sets(self):
        for program, counters in cases():
            for target in all_counters(program):
                self.is_decided(counters, target, is_told(counters, target))

    def test_untold_says_the_same_as_tells(self):
        for program, counters in cases(12):
            self.only(untold(counters), [target for target in all_counters(program) if not tells(counters, target)])

    def test_all_sets_of_small_programs(self):
        for program in (fork(), loop(), Program.row("x"), Program({"x": ("a", "b"), "y": ("b", "a")}, "b", ["a", "b"])):
            known = all_counters(program)
            for many in range(len(known) + 1):
                for chosen in itertools.combinations(known, many):
                    counters = Counters(program, *chosen)
                    for target in known:
                        self.is_decided(counters, target, is_told(counters, target))

    def test_none_counted(self):
        for program in [*programs(), *great_programs()]:
            self.only(untold(Counters(program)), all_counters(program))

    def test_all_counted(self):
        for program in [*programs(), *great_programs()]:
            counters = Counters.everything(program)
            self.only(untold(counters), [])
            for target in all_counters(program)[::7]:
                self.is_decided(counters, target, True)

    def test_all_ways_counted(self):
        self.only(untold(Counters.of_ways(diamond(), *diamond().ways())), [])
        self.only(untold(Counters.of_ways(maze(), *maze().ways())), [
            ("place", "in"), ("stop", "in"), ("runs",)])
        self.only(untold(Counters.of_ways(loop(), "again")), [("place", "home"), ("stop", "home"), ("runs",)])

    def test_places_counted(self):
        places = Counters(fork(), ("place", "a"), ("place", "b"))
        self.only(untold(places), [("way", "x"), ("way", "y"), ("way", "z"), ("stop", "b"), ("runs",)])
        self.only(untold(places + Counters(fork(), ("way", "z"))), [("way", "x"), ("way", "y")])
        self.only(untold(Counters(loop(), ("place", "home"))), [("way", "again"), ("stop", "home"), ("runs",)])
        self.only(untold(Counters(Program.row("x", "y"), ("place", "b"))), [])

    def test_great_programs(self):
        for program in great_programs():
            for counters in some_sets(program, 4):
                not_told = untold(counters)
                for target in all_counters(program)[::5]:
                    self.is_decided(counters, target, target not in not_told)

    def test_by_brute_force_over_lots(self):
        for program in (fork(), maze(), diamond(), split()):
            runs = some_runs(program, 10)[:10]
            lots = [Lot.of(program, *some) for many in range(4) for some in itertools.combinations(runs, many)]
            for counters in some_sets(program, 8):
                seen = {}
                for lot in lots:
                    values = tuple(values_of(counters, lot).values())
                    seen.setdefault(values, []).append(lot)
                for target in all_counters(program):
                    unlike = any(len({lot[target] for lot in same}) > 1 for same in seen.values())
                    if unlike:
                        self.assertIs(tells(counters, target), False)

    def test_the_same_again_and_for_equal_programs(self):
        turned = Program({way: maze()[way] for way in reversed(maze().ways())}, "in", ["in", "out"])
        chosen = [("way", "go"), ("place", "mid"), ("runs",)]
        one, again, other = Counters(maze(), *chosen), Counters(maze(), *chosen), Counters(turned, *chosen[::-1])
        for target in all_counters(maze()):
            for call in (tells, flow_for, lots_for):
                self.assertEqual(call(one, target), call(one, target))
                self.assertEqual(call(one, target), call(again, target))
                self.assertEqual(call(one, target), call(other, target))
            sums = [sum_for(counters, target) for counters in (one, one, again, other)]
            parts = [None if told is None else (told.divisor, told.shares(), told.levels()) for told in sums]
            self.assertEqual(parts, parts[:1] * 4)

    def test_by_name(self):
        counters = Counters(fork(), ("way", "x"), ("runs",))
        self.assertIs(tells(target=("way", "x"), counters=counters), True)
        self.only(untold(counters=counters), untold(counters))
        self.shows(counters, ("stop", "b"), sum_for(target=("stop", "b"), counters=counters))
        self.is_flow(counters, ("way", "y"), flow_for(target=("way", "y"), counters=counters))
        self.are_lots(counters, ("way", "y"), lots_for(target=("way", "y"), counters=counters))

    def test_wrong_arguments(self):
        for call in (sum_for, tells, flow_for, lots_for):
            for value in WRONG_COUNTERS:
                self.fails(BadArgument, value, call, value, ("runs",))
                self.fails(BadArgument, value, call, value, None)
                self.fails(BadArgument, value, call, target=SOUR, counters=value)
            for value in NO_TARGETS:
                self.fails(BadCounter, value, call, Counters(fork(), ("runs",)), value)
                self.fails(BadCounter, value, call, Counters.everything(fork()), value)
                self.fails(BadCounter, value, call, target=value, counters=Counters(fork()))
        for value in WRONG_COUNTERS:
            self.fails(BadArgument, value, untold, value)
            self.fails(BadArgument, value, untold, counters=value)

    def test_returned_values_belong_to_the_caller(self):
        counters = Counters(fork(), ("way", "x"), ("runs",))
        before = dict(flow_for(counters, ("way", "y")))
        flow_for(counters, ("way", "y")).clear()
        untold(counters).clear()
        lots_for(counters, ("way", "y"))[0].counts().clear()
        self.assertEqual(flow_for(counters, ("way", "y")), before)
        self.assertEqual(len(untold(counters)), 4)
        self.are_lots(counters, ("way", "y"), lots_for(counters, ("way", "y")))
        self.assertEqual(counters, Counters(fork(), ("way", "x"), ("runs",)))


class SumTests(TellingChecks):

    def told_sums(self):
        """Some sets with all that they tell."""
        return [(counters, sum_for(counters, target)) for program, counters in cases(4)
                for target in all_counters(program) if tells(counters, target)]

    def test_values_of_lots(self):
        for counters, told in self.told_sums():
            program = counters.program
            runs = some_runs(program, 5)[:8]
            lots = [Lot.of(program), Lot.of(program, *runs), *[Lot.of(program, run) for run in runs]]
            for lot in [*lots, lots[1] * 10**30 + lots[2], lots[1] * 10**40]:
                value = told(values_of(counters, lot))
                self.assertIs(value.__class__, int)
                self.assertEqual(value, lot[told.target])

    def test_values_that_no_lot_has(self):
        counters = Counters(fork(), ("way", "x"), ("way", "y"), ("runs",))
        told = sum_for(counters, ("way", "z"))
        for x, y, runs in ((1, 1, 1), (0, 0, 5), (-3, 2, 7), (-10**40, 10**40, 10**40), (10**40, 10**40, -10**40)):
            values = {("way", "x"): x, ("way", "y"): y, ("runs",): runs}
            total = sum(share * values[counter] for counter, share in told.shares().items())
            if total % told.divisor == 0:
                self.assertEqual(told(values), total // told.divisor)
                self.assertEqual(told(values), x + y - runs)
            self.assertEqual(values, {("way", "x"): x, ("way", "y"): y, ("runs",): runs})

    def test_by_name_and_in_any_order(self):
        told = sum_for(Counters(fork(), ("way", "x"), ("way", "y"), ("runs",)), ("way", "z"))
        self.assertEqual(told(values={("way", "y"): 4, ("runs",): 2, ("way", "x"): 3}), 5)

    def test_a_target_of_the_set(self):
        counters = Counters(maze(), ("way", "go"), ("place", "mid"), ("runs",))
        for target in counters.listed():
            told = sum_for(counters, target)
            self.shows(counters, target, told)
            values = {counter: at * 10**39 for at, counter in enumerate(counters.listed())}
            self.assertEqual(told(values), values[target])

    def test_properties(self):
        told = sum_for(Counters(fork(), ("runs",)), ("stop", "b"))
        self.assertEqual((told.target, told.divisor > 0), (("stop", "b"), True))
        for name in ("target", "divisor"):
            self.assertIsInstance(vars(Sum)[name], property)
            with self.assertRaises(AttributeError):
                setattr(told, name, 1)

    def test_wrong_values(self):
        counters = Counters(fork(), ("way", "x"), ("way", "y"), ("runs",))
        told = sum_for(counters, ("way", "z"))
        right = {("way", "x"): 1, ("way", "y"): 1, ("runs",): 1}
        for value in [*ODD_VALUES, 0, "values", list(right), list(right.values()), Lot.of(fork()), counters]:
            self.fails(BadValues, value, told, value)
            self.fails(BadValues, value, told, values=value)
        for key in right:
            fewer = {one: right[one] for one in right if one != key}
            self.fails(BadValues, fewer, told, fewer)
            for other in [("way", "z"), ("place", "a"), ("way", "w"), "runs", 0, None, (), SAME, (SAME,)]:
                swapped = {**fewer, other: 1}
                self.fails(BadValues, swapped, told, swapped)
            for value in [*ODD_VALUES, 1.0, "1", [1]]:
                wrong = {**right, key: value}
                self.fails(BadValues, wrong, told, wrong)
        more = {**right, ("way", "z"): 1}
        self.fails(BadValues, more, told, more)
        everything = {counter: 0 for counter in all_counters(fork())}
        self.fails(BadValues, everything, told, everything)

    def test_a_sum_that_is_not_divisible(self):
        told = Sum(("way", "x"), {("way", "x"): 3, ("runs",): 1}, 3, {"a": 0, "b": 0})
        self.assertEqual(told({("way", "x"): 10**40, ("runs",): -3}), 10**40 - 1)
        for runs in (1, 2, -1, 10**40):
            wrong = {("way", "x"): 10**40, ("runs",): runs}
            self.fails(BadValues, wrong, told, wrong)

    def test_shares_and_levels_belong_to_the_caller(self):
        told = sum_for(Counters(fork(), ("way", "x"), ("way", "y"), ("runs",)), ("way", "z"))
        shares, levels = dict(told.shares()), dict(told.levels())
        told.shares().clear()
        told.levels().clear()
        told.shares()[("way", "x")] = 7
        told.levels()["a"] = 7
        self.assertEqual((told.shares(), told.levels()), (shares, levels))
        self.assertEqual(told({("way", "x"): 2, ("way", "y"): 1, ("runs",): 1}), 2)

    def test_great_sums(self):
        program = Program({word: ("a", "b") for word in words(40)}, "a", ["b"])
        counters = Counters.of_ways(program, *words(40))
        values = {counter: 10**40 for counter in counters.listed()}
        self.assertEqual(sum_for(counters, ("runs",))(values), 40 * 10**40)
        others = counters - Counters.of_ways(program, "aa") + Counters(program, ("stop", "b"))
        values = {counter: 10**40 for counter in others.listed()}
        self.assertEqual(sum_for(others, ("way", "aa"))(values), -38 * 10**40)


if __name__ == "__main__":
    unittest.main()
