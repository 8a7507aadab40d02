"""Tests of countededges.numbers."""

import collections
import doctest
import itertools
import random
import types
import unittest

from countededges.counters import Counters
from countededges.errors import BadArgument, BadCosts, BadLevels, BadNumber, BadRun, BadWay, Rings
from countededges.numbers import Numbering
from countededges.programs import Program, is_run, runs_to
from tests.samples import (
    ODD_FULL_VALUES, ODD_VALUES, SAME, SOUR, Checks, all_programs, diamond, fork, great_programs, ladder, loop, maze,
    small_programs, split, words)

EXAMPLE = """
>>> from countededges.programs import Program
>>> from countededges.numbers import Numbering
>>> two = Program({"p": ("a", "b"), "q": ("a", "b"), "r": ("b", "c"), "s": ("b", "c")}, "a", ["c"])
>>> numbering = Numbering(two)
>>> (numbering.many, numbering(["q", "r"]), numbering.run(3), [numbering[way] for way in two.ways()])
(4, 2, ['q', 's'], [0, 2, 0, 1])
"""


def two():
    """The program of the document's example."""
    return Program({"p": ("a", "b"), "q": ("a", "b"), "r": ("b", "c"), "s": ("b", "c")}, "a", ["c"])


def lattice():
    """Paths that part and come together again, with exits on the way, and unlike numbers of ways onward."""
    ways = {"a": ("s", "u"), "b": ("s", "v"), "c": ("u", "w"), "d": ("v", "w"), "e": ("u", "v"), "f": ("w", "t"),
            "g": ("v", "t"), "h": ("w", "x"), "i": ("x", "t")}
    return Program(ways, "s", ["t", "v"])


def small():
    """Programs without rings whose runs can all be listed."""
    found = [program for program in all_programs() if program.find_ring() is None]
    late = Program({"x": ("z", "a"), "y": ("z", "a")}, "z", ["z", "a"])
    return [*found, late, two(), lattice(), split(), ladder(3), ladder(6), *small_programs(40, rings=False)]


def great():
    """Programs of forty ways without rings."""
    skips = {f"{one}{other}": (one, other) for one, other in itertools.combinations("abcdefghi", 2)}
    skips |= {"more": ("a", "i"), "even": ("b", "e"), "again": ("c", "d"), "last": ("h", "i")}
    return [*[program for program in great_programs() if program.find_ring() is None],
            Program(skips, "a", ["c", "g", "i"])]


def ordered_runs(program, place=None):
    """All ways to go on from a place to an exit, stopping first, then by ways ascending, by the words of point 11."""
    place = program.begin if place is None else place
    stopping = [[]] if place in program.exits() else []
    return stopping + [[way, *rest] for way in program.leaving(place) for rest in ordered_runs(program, program[way][1])]


def steps_by_words(program):
    """The step of each way, by the words of point 11."""
    steps = {}
    for place in program.places():
        ahead = int(place in program.exits())
        for way in program.leaving(place):
            steps[way] = ahead
            ahead += len(ordered_runs(program, program[way][1]))
    return steps


def some_levels(program, most, seed=1):
    """Levels of all places, 0 for the begin and the exits, the same ones each time."""
    chance = random.Random(seed)
    pinned = [program.begin, *program.exits()]
    return {place: 0 if place in pinned else chance.randint(-most, most) for place in program.places()}


def steps_of(numbering):
    """The steps of all ways."""
    return {way: numbering[way] for way in numbering.program.ways()}


def moved_steps(program, steps, levels):
    """Steps moved by levels, by the words of point 12."""
    return {way: steps[way] + levels[program[way][1]] - levels[program[way][0]] for way in steps}


def can_be_freed(numbering, ways):
    """Whether there are levels by which some ways are free, by looking for circles of ways whose steps do not fit."""
    program = numbering.program
    level = {place: (place, 0) for place in program.places()}
    for place in [program.begin, *program.exits()]:
        level[place] = ("", 0)
    for way in ways:
        (one, up), (other, down) = level[program[way][0]], level[program[way][1]]
        gap = up - numbering[way] - down
        if one == other and gap != 0:
            return False
        for place, (group, height) in list(level.items()):
            if group == other and one != other:
                level[place] = (one, height + gap)
    return True


class ExampleTests(unittest.TestCase):

    def test_the_example_of_the_document(self):
        example = doctest.DocTestParser().get_doctest(EXAMPLE, {}, "example", None, None)
        ran = doctest.DocTestRunner().run(example)
        self.assertEqual((ran.failed, ran.attempted), (0, 5))


class NumberTests(Checks):

    def test_all_runs_of_small_programs(self):
        for program in small():
            numbering = Numbering(program)
            runs = ordered_runs(program)
            self.assertEqual((numbering.program, numbering.many), (program, len(runs)))
            self.only(list(numbering.all_runs()), runs)
            self.assertEqual(sorted(runs), sorted(runs_to(program, 8)))
            self.assertEqual(steps_of(numbering), steps_by_words(program))
            for number, run in enumerate(runs):
                self.assertEqual(numbering(run), number)
                self.assertIs(numbering(run).__class__, int)
                self.only(numbering.run(number), run)

    def test_great_programs(self):
        for program in great():
            numbering = Numbering(program)
            chance = random.Random(1)
            numbers = {0, 1, numbering.many // 2, numbering.many - 2, numbering.many - 1}
            numbers |= {chance.randrange(numbering.many) for at in range(50)}
            for number in numbers & set(range(numbering.many)):
                run = numbering.run(number)
                self.assertTrue(is_run(program, run))
                self.assertEqual(numbering(run), number)

    def test_very_many_runs(self):
        numbering = Numbering(ladder(20))
        self.assertGreater(numbering.many, 10**6)
        first = list(itertools.islice(numbering.all_runs(), 500))
        self.assertEqual([numbering(run) for run in first], list(range(500)))
        self.assertEqual([numbering.run(number) for number in range(500)], first)
        self.assertEqual(numbering.run(numbering.many - 1), [f"q{place}" for place in words(20)])
        triple = Program({f"{side}{place}": (place, after) for place, after in zip(words(14), words(14)[1:])
                          for side in "xyz"}, "aa", ["an"])
        self.assertEqual(Numbering(triple).many, 3**13)

    def test_all_runs_is_a_generator(self):
        told = Numbering(ladder(20)).all_runs()
        self.assertIsInstance(told, types.GeneratorType)
        self.assertEqual(next(told), [f"p{place}" for place in words(3)])

    def test_runs_belong_to_the_caller(self):
        numbering = Numbering(split())
        found = []
        for run in numbering.all_runs():
            found.append(list(run))
            run.append("o")
            run.insert(0, "k")
        self.assertEqual(found, ordered_runs(split()))
        numbering.run(3).clear()
        self.assertEqual(numbering.run(3), ordered_runs(split())[3])

    def test_an_exit_at_the_begin(self):
        numbering = Numbering(split())
        self.assertEqual((numbering([]), numbering.run(0), next(numbering.all_runs())), (0, [], []))

    def test_by_name(self):
        numbering = Numbering(program=two())
        self.assertEqual((numbering(run=["q", "r"]), numbering.run(number=3)), (2, ["q", "s"]))

    def test_properties(self):
        for name in ("program", "many"):
            self.assertIsInstance(vars(Numbering)[name], property)
            with self.assertRaises(AttributeError):
                setattr(Numbering(two()), name, 1)

    def test_wrong_programs(self):
        for value in [*ODD_VALUES, 0, Counters(two()), Numbering(two()), {"x": ("a", "b")}]:
            self.fails(BadArgument, value, Numbering, value)
            self.fails(BadArgument, value, Numbering, program=value)

    def test_programs_with_rings(self):
        for program in [*[one for one in small_programs(40) if one.find_ring() is not None], fork(), loop(), maze()]:
            with self.assertRaises(Rings) as caught:
                Numbering(program)
            ring = caught.exception.ring
            self.assertIs(ring.__class__, list)
            self.assertTrue(ring)
            for way, after in zip(ring, [*ring[1:], ring[0]]):
                self.assertEqual(program[way][1], program[after][0])

    def test_wrong_ways(self):
        numbering = Numbering(two())
        for value in [*ODD_VALUES, 0, -1, "a", "t", ["p"], ("p",), ("way", "p"), slice(0, 1)]:
            self.fails(BadWay, value, lambda: numbering[value])

    def test_wrong_runs(self):
        for value in [*ODD_FULL_VALUES, [], (), {}, 0, "p", ["p"], ["r"], ("p", "r"), ["p", "r", "s"], ["p", "p"],
                      ["p", SOUR], [SAME, SAME], ["p", None], ["r", "p"], [["p", "r"]], "pr", {"p": 1, "r": 1}]:
            self.fails(BadRun, value, Numbering(two()), value)
            self.fails(BadRun, value, Numbering(two()), run=value)

    def test_wrong_numbers(self):
        for program in small():
            numbering = Numbering(program)
            for value in [*ODD_VALUES, -1, numbering.many, numbering.many + 1, 10**40, -10**40, 0.0, "0", [0]]:
                self.fails(BadNumber, value, numbering.run, value)
                self.fails(BadNumber, value, numbering.run, number=value)

    def test_it_is_not_iterated_over(self):
        with self.assertRaises(TypeError):
            list(Numbering(two()))


class MovedChecks(Checks):
    """Checks of moved numberings."""

    def is_moved(self, numbering, expected):
        """Checks the steps of a moved numbering, and that all numbers are those of the first one."""
        first = Numbering(numbering.program)
        self.assertEqual(steps_of(numbering), expected)
        self.assertIs(numbering.__class__, Numbering)
        self.assertEqual((numbering.program, numbering.many), (first.program, first.many))
        for number, run in itertools.islice(enumerate(first.all_runs()), 60):
            self.assertEqual(numbering(run), number)
            self.assertEqual(numbering.run(number), run)
        self.assertEqual(list(itertools.islice(numbering.all_runs(), 60)), list(itertools.islice(first.all_runs(), 60)))
        self.assertEqual(numbering(numbering.run(first.many - 1)), first.many - 1)
        self.only(numbering.free(), [way for way in numbering.program.ways() if expected[way] == 0])


class MovedTests(MovedChecks):

    def test_one_two_and_three_movings(self):
        for program in [*small(), *great()]:
            for most in (1, 5, 10**40):
                numbering = Numbering(program)
                steps = steps_of(numbering)
                for seed in (1, 2, 3):
                    levels = some_levels(program, most, seed)
                    before, kept = steps, numbering
                    numbering = numbering.moved(levels)
                    steps = moved_steps(program, steps, levels)
                    self.is_moved(numbering, steps)
                    self.is_moved(kept, before)

    def test_back_again(self):
        for program in [*small(), *great()]:
            levels = some_levels(program, 9)
            back = {place: -level for place, level in levels.items()}
            self.assertEqual(Numbering(program).moved(levels).moved(back), Numbering(program))

    def test_levels_of_zero(self):
        for program in small():
            levels = {place: 0 for place in program.places()}
            self.assertEqual(Numbering(program).moved(levels=levels), Numbering(program))

    def test_known_steps(self):
        numbering = Numbering(two()).moved({"c": 0, "b": 5, "a": 0})
        self.assertEqual(steps_of(numbering), {"p": 5, "q": 7, "r": -5, "s": -4})
        self.assertEqual((numbering(["q", "r"]), numbering.run(3)), (2, ["q", "s"]))

    def test_wrong_levels(self):
        right = {"a": 0, "b": 3, "c": 0}
        fewer = [{place: right[place] for place in right if place != left} for left in right]
        swapped = [{**one, other: 0} for one in fewer for other in ("d", "p", "A", 0, None, (), ("a",), SAME)]
        more = [{**right, other: 0} for other in ("d", "p", "x", 0, None, ("place", "a"), SAME)]
        pinned = [{**right, place: level} for place in "ac" for level in (1, -1, 10**40)]
        odd = [{**right, place: value} for place in right for value in [*ODD_VALUES, 0.0, 1.0, "0", [0]]]
        lists = [list(right), list(right.items()), list(right.values()), tuple(right), "levels", 0, Numbering(two())]
        for numbering in (Numbering(two()), Numbering(two()).moved(right), Numbering(two()).freed("s")):
            for value in [*ODD_VALUES, *fewer, *swapped, *more, *pinned, *odd, *lists]:
                self.fails(BadLevels, value, numbering.moved, value)
                self.fails(BadLevels, value, numbering.moved, levels=value)

    def test_each_exit_is_pinned(self):
        levels = {"a": 0, "b": 1, "c": 0, "d": 0}
        for wrong in ({**levels, "c": 1}, {**levels, "a": 1}, {**levels, "d": -1}):
            self.fails(BadLevels, wrong, Numbering(split()).moved, wrong)
        self.assertEqual(Numbering(split()).moved(levels)["m"], Numbering(split())["m"] - 1)

    def test_given_levels_stay_and_are_not_kept(self):
        levels = {"c": 0, "b": 5, "a": 0}
        numbering = Numbering(two()).moved(levels)
        self.assertEqual(list(levels.items()), [("c", 0), ("b", 5), ("a", 0)])
        levels["b"] = 7
        levels.pop("a")
        self.assertEqual(steps_of(numbering), {"p": 5, "q": 7, "r": -5, "s": -4})

    def test_dicts_of_a_finer_kind(self):
        levels = collections.OrderedDict([("c", 0), ("b", 5), ("a", 0)])
        self.assertEqual(Numbering(two()).moved(levels)["p"], 5)


class FreedTests(MovedChecks):

    def numberings(self):
        """Numberings of all kinds, moved ones, too."""
        for program in small():
            yield Numbering(program)
            yield Numbering(program).moved(some_levels(program, 3))

    def is_freed(self, numbering, ways):
        """Checks that ways are freed exactly if they can be."""
        before = steps_of(numbering)
        told = numbering.freed(*ways)
        if not can_be_freed(numbering, ways):
            self.assertIsNone(told)
        else:
            self.is_moved(told, steps_of(told))
            self.assertTrue(all(told[way] == 0 for way in ways))
            self.assertEqual(told, numbering.freed(*ways))
        self.assertEqual(steps_of(numbering), before)

    def test_freed_of_none(self):
        for numbering in self.numberings():
            told = numbering.freed()
            self.is_moved(told, steps_of(told))

    def test_each_way(self):
        for numbering in self.numberings():
            for way in numbering.program.ways():
                self.is_freed(numbering, [way])
                self.is_freed(numbering, [way, way])

    def test_several_ways(self):
        for numbering in self.numberings():
            ways = numbering.program.ways()
            for pair in itertools.islice(itertools.permutations(ways, 2), 12):
                self.is_freed(numbering, pair)
            for some in itertools.islice(itertools.combinations(ways, 3), 0, 30, 3):
                self.is_freed(numbering, some)
            self.is_freed(numbering, ways)

    def test_both_answers_occur(self):
        told = [numbering.freed(*pair) is None for numbering in self.numberings()
                for pair in itertools.combinations(numbering.program.ways(), 2)]
        self.assertGreater(told.count(True), 50)
        self.assertGreater(told.count(False), 50)

    def test_great_programs(self):
        for program in great():
            for some in (program.ways()[::3], program.ways()[::7], program.ways()[:2], program.ways()):
                self.is_freed(Numbering(program), some)

    def test_known_ones(self):
        numbering = Numbering(two())
        self.assertEqual(steps_of(numbering.freed("q")), {"p": -2, "q": 0, "r": 2, "s": 3})
        self.assertEqual(steps_of(numbering.freed("s")), {"p": 1, "q": 3, "r": -1, "s": 0})
        self.assertEqual(steps_of(numbering.freed("p", "r")), {"p": 0, "q": 2, "r": 0, "s": 1})
        for ways in (["p", "q"], ["r", "s"], ["q", "s"], ["p", "s"], ["q", "r", "p"]):
            self.assertIsNone(numbering.freed(*ways))
        self.assertEqual(numbering.freed("s").freed("q").freed("p", "r"), numbering)

    def test_wrong_ways(self):
        for numbering in (Numbering(two()), Numbering(two()).freed("s")):
            for value in [*ODD_VALUES, 0, "a", "t", ["p"], ("p",), ("way", "p")]:
                self.fails(BadWay, value, numbering.freed, value)
                self.fails(BadWay, value, numbering.freed, "p", "q", value, None)
                self.fails(BadWay, value, numbering.freed, "p", value, "p")


class QuietTests(MovedChecks):

    def taken_by_words(self, numbering, costs):
        """The ways that are freed one after the other, the dearest first, like ones ascending."""
        taken = []
        for way in sorted(costs, key=lambda one: (-costs[one], one)):
            if can_be_freed(numbering, [*taken, way]):
                taken.append(way)
        return taken

    def is_quiet(self, numbering, costs):
        """Checks a quiet numbering: all levels are told by the ways that are taken, so there is only one."""
        before = steps_of(numbering)
        told = numbering.quiet(costs)
        taken = self.taken_by_words(numbering, costs)
        self.is_moved(told, steps_of(told))
        self.assertTrue(set(taken) <= set(told.free()))
        self.assertEqual(told, numbering.freed(*taken))
        self.assertEqual(steps_of(numbering), before)

    def test_quiet_by_costs(self):
        for program in [*small(), *great()]:
            for most in (0, 1, 3, 10**40):
                chance = random.Random(most)
                costs = {way: chance.randint(0, most) for way in program.ways()}
                self.is_quiet(Numbering(program), costs)
                self.is_quiet(Numbering(program).moved(some_levels(program, 4)), costs)

    def test_known_ones(self):
        numbering = Numbering(two())
        for costs, free in (({"p": 0, "q": 0, "r": 0, "s": 0}, ["p", "r"]), ({"p": 0, "q": 1, "r": 0, "s": 0}, ["q"]),
                            ({"p": 4, "q": 4, "r": 4, "s": 5}, ["s"]), ({"p": 4, "q": 3, "r": 3, "s": 3}, ["p", "r"])):
            self.assertEqual(numbering.quiet(costs).free(), free)
            self.assertEqual(numbering.quiet(dict(reversed(costs.items()))), numbering.quiet(costs=costs))

    def test_dear_ways_are_free(self):
        wide = Program({"p": ("a", "b"), "q": ("a", "c"), "r": ("b", "d"), "s": ("c", "d"), "t": ("b", "c")}, "a", ["d"])
        numbering = Numbering(wide)
        for dear in wide.ways():
            told = numbering.quiet({way: int(way == dear) for way in wide.ways()})
            self.assertIn(dear, told.free())
        self.assertEqual(numbering.quiet({"p": 1, "q": 5, "r": 2, "s": 4, "t": 3}).free(), ["q", "t"])

    def test_wrong_costs(self):
        right = {"p": 0, "q": 1, "r": 2, "s": 3}
        fewer = [{way: right[way] for way in right if way != left} for left in right]
        swapped = [{**one, other: 0} for one in fewer for other in ("a", "t", ("way", "p"), 0, None, SAME)]
        more = [{**right, other: 0} for other in ("a", "t", ("way", "p"), 0, None, SAME)]
        odd = [{**right, way: value} for way in right for value in [*ODD_VALUES, -1, -10**40, 0.0, "0", [0]]]
        lists = [list(right), list(right.items()), list(right.values()), tuple(right), "costs", 0]
        for numbering in (Numbering(two()), Numbering(two()).freed("s")):
            for value in [*ODD_VALUES, *fewer, *swapped, *more, *odd, *lists]:
                self.fails(BadCosts, value, numbering.quiet, value)
                self.fails(BadCosts, value, numbering.quiet, costs=value)

    def test_given_costs_stay(self):
        costs = {"s": 1, "p": 0, "r": 2, "q": 9}
        Numbering(two()).quiet(costs)
        self.assertEqual(list(costs.items()), [("s", 1), ("p", 0), ("r", 2), ("q", 9)])


class FreeAndEqualTests(Checks):

    def test_free_ways(self):
        self.only(Numbering(two()).free(), ["p", "r"])
        self.only(Numbering(two()).moved({"a": 0, "b": 7, "c": 0}).free(), [])
        self.only(Numbering(Program.row("z", "y", "x")).free(), ["x", "y", "z"])
        self.only(Numbering(split()).free(), ["m"])

    def test_the_list_belongs_to_the_caller(self):
        numbering = Numbering(two())
        numbering.free().clear()
        self.assertEqual(numbering.free(), ["p", "r"])

    def test_equal_and_unlike_movings(self):
        first = Numbering(two())
        moved = [first.moved({"a": 0, "b": level, "c": 0}) for level in (0, 1, 2, 1)]
        self.assertIs(first == moved[0], True)
        self.assertIs(first != moved[0], False)
        self.assertIs(moved[1] == moved[3], True)
        self.assertIs(moved[1] == moved[2], False)
        self.assertIs(moved[1] != moved[2], True)
        self.assertIs(first == moved[1], False)
        self.assertIs(moved[1].moved({"a": 0, "b": 1, "c": 0}) == moved[2], True)

    def test_equal_and_unlike_programs(self):
        turned = Program({"s": ("b", "c"), "r": ("b", "c"), "q": ("a", "b"), "p": ("a", "b")}, "a", ["c"])
        self.assertIs(Numbering(two()) == Numbering(turned), True)
        named = Program({"p": ("a", "d"), "q": ("a", "d"), "r": ("d", "c"), "s": ("d", "c")}, "a", ["c"])
        self.assertEqual(steps_of(Numbering(two())), steps_of(Numbering(named)))
        self.assertIs(Numbering(two()) == Numbering(named), False)
        self.assertIs(Numbering(two()) == Numbering(diamond()), False)

    def test_values_of_other_classes(self):
        for value in [*ODD_VALUES, 0, two(), steps_of(Numbering(two())), Counters(two())]:
            self.assertIs(Numbering(two()) == value, False)
            self.assertIs(Numbering(two()) != value, True)


if __name__ == "__main__":
    unittest.main()
