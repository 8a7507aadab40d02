"""Tests of countededges.counters."""

import collections
import itertools
import unittest

from countededges.counters import Counters, all_counters, is_counter
from countededges.errors import BadArgument, BadCounter, BadWay
from countededges.programs import Program
from tests.samples import ODD_VALUES, SAME, SOUR, Checks, all_programs, diamond, fork, loop, maze, words

WRONG_PROGRAMS = [*ODD_VALUES, 0, "program", Counters(fork())]

FORK = [("way", "x"), ("way", "y"), ("way", "z"), ("place", "a"), ("place", "b"), ("stop", "b"), ("runs",)]

# No one of these is a counter of the fork.
NO_COUNTERS = [
    *ODD_VALUES, 0, "runs", "way", "x", "way:x", ["runs"], ["way", "x"], ("way",), ("runs", "x"), ("runs", None),
    ("way", "a"), ("way", "w"), ("place", "x"), ("place", "c"), ("stop", "a"), ("stop", "x"), ("stop",), ("Way", "x"),
    ("ways", "x"), ("exit", "b"), ("way", "x", "y"), ("way", ("x",)), ("way", ["x"]), (("way", "x"),), ("way", None),
    ("way", SAME), ("way", SOUR), (SAME, "x"), (SOUR, "x"), (SAME,), (b"way", "x"), ("way", b"x"), ("way", True),
    ("x", "way"), ("", ""), ("run",),
]


class CounterTests(Checks):

    def test_all_counters_in_order(self):
        self.only(all_counters(fork()), FORK)
        self.only(all_counters(loop()), [("way", "again"), ("place", "home"), ("stop", "home"), ("runs",)])
        self.only(all_counters(diamond()), [
            ("way", "a"), ("way", "p"), ("way", "q"), ("way", "r"), ("way", "s"),
            ("place", "a"), ("place", "b"), ("place", "c"), ("place", "d"), ("place", "e"),
            ("stop", "d"), ("stop", "e"), ("runs",)])

    def test_the_order_does_not_hang_on_what_was_given(self):
        turned = Program({way: maze()[way] for way in reversed(maze().ways())}, "in", ["in", "out"])
        self.assertEqual(all_counters(turned), all_counters(maze()))

    def test_is_counter(self):
        for program in all_programs():
            for counter in all_counters(program):
                self.assertIs(is_counter(program, counter), True)
        for value in NO_COUNTERS:
            self.assertIs(is_counter(fork(), value), False)

    def test_by_name(self):
        self.only(all_counters(program=fork()), FORK)
        self.assertIs(is_counter(value=("runs",), program=fork()), True)

    def test_wrong_programs(self):
        for value in WRONG_PROGRAMS:
            self.fails(BadArgument, value, all_counters, value)
            self.fails(BadArgument, value, is_counter, value, ("runs",))
            self.fails(BadArgument, value, is_counter, value, SOUR)
            self.fails(BadArgument, value, is_counter, program=value, value=None)

    def test_the_list_belongs_to_the_caller(self):
        program = fork()
        all_counters(program).clear()
        self.only(all_counters(program), FORK)


class MakingTests(Checks):

    def test_the_order_whatever_the_order_given(self):
        for many in (0, 1, 2, 3):
            for given in itertools.permutations(FORK, many):
                made = Counters(fork(), *given)
                self.only(made.listed(), [counter for counter in FORK if counter in given])
                self.assertEqual(len(made), many)
        self.only(Counters(fork(), *FORK[::-1]).listed(), FORK)

    def test_none_given(self):
        for program in all_programs():
            made = Counters(program)
            self.only(made.listed(), [])
            self.assertEqual(len(made), 0)
            self.assertEqual(made, Counters(program=program))

    def test_wrong_programs_are_told_first(self):
        for value in WRONG_PROGRAMS:
            self.fails(BadArgument, value, Counters, value)
            self.fails(BadArgument, value, Counters, value, ("runs",))
            self.fails(BadArgument, value, Counters, value, SOUR, None)
            self.fails(BadArgument, value, Counters, program=value)

    def test_the_first_wrong_counter(self):
        for value in NO_COUNTERS:
            self.fails(BadCounter, value, Counters, fork(), value)
            self.fails(BadCounter, value, Counters, fork(), ("runs",), value)
            self.fails(BadCounter, value, Counters, fork(), value, ("runs",), ("runs",), None)
            self.fails(BadCounter, value, Counters, fork(), *FORK, value)

    def test_a_counter_given_before(self):
        again = tuple(["way", "x"])
        self.fails(BadCounter, again, Counters, fork(), ("way", "x"), again)
        self.fails(BadCounter, again, Counters, fork(), *FORK, again, None)
        self.fails(BadCounter, again, Counters, fork(), ("way", "x"), ("runs",), again, ("runs",))

    def test_counters_of_another_program(self):
        wrong = ("stop", "d")
        self.fails(BadCounter, wrong, Counters, fork(), ("way", "x"), wrong)
        self.assertIn(wrong, Counters(diamond(), wrong))

    def test_the_program(self):
        self.assertIsInstance(vars(Counters)["program"], property)
        program = maze()
        self.assertEqual(Counters(program, ("runs",)).program, program)
        with self.assertRaises(AttributeError):
            Counters(program).program = fork()

    def test_tuples_of_a_finer_kind_are_kept_as_plain_ones(self):
        pair = collections.namedtuple("pair", "kind name")
        made = Counters(fork(), pair("way", "x"))
        self.assertIs(made.listed()[0].__class__, tuple)

    def test_the_list_belongs_to_the_caller(self):
        made = Counters(fork(), *FORK[:3])
        made.listed().clear()
        made.listed().append(("runs",))
        self.only(made.listed(), FORK[:3])

    def test_a_given_list_is_neither_changed_nor_kept(self):
        given = FORK[::-1]
        made = Counters(fork(), *given)
        self.assertEqual(given, FORK[::-1])
        given.clear()
        self.only(made.listed(), FORK)


class OfWaysTests(Checks):

    def test_counters_of_ways(self):
        self.assertIsInstance(vars(Counters)["of_ways"], staticmethod)
        self.only(Counters.of_ways(fork(), "z", "x").listed(), [("way", "x"), ("way", "z")])
        self.only(Counters.of_ways(fork()).listed(), [])
        self.only(Counters.of_ways(program=fork()).listed(), [])
        self.assertEqual(Counters.of_ways(diamond(), *diamond().ways()[::-1]).listed(), all_counters(diamond())[:5])
        many = Program({word: ("a", "b") for word in words(40)}, "a", ["b"])
        self.assertEqual(len(Counters.of_ways(many, *words(40))), 40)

    def test_the_first_wrong_way(self):
        for value in [*ODD_VALUES, 0, "a", "w", ("way", "x"), ["x"], b"x"]:
            self.fails(BadWay, value, Counters.of_ways, fork(), value)
            self.fails(BadWay, value, Counters.of_ways, fork(), "x", value, "x")
            self.fails(BadWay, value, Counters.of_ways, fork(), "x", "y", "z", value)
        program = Program({"ab": ("a", "b"), "y": ("a", "b")}, "a", ["b"])
        again = "".join(["a", "b"])
        self.fails(BadWay, again, Counters.of_ways, program, "ab", "y", again, None)

    def test_wrong_programs_are_told_first(self):
        for value in WRONG_PROGRAMS:
            self.fails(BadArgument, value, Counters.of_ways, value)
            self.fails(BadArgument, value, Counters.of_ways, value, "x", SOUR)
            self.fails(BadArgument, value, Counters.of_ways, program=value)
            self.fails(BadArgument, value, Counters.everything, value)
            self.fails(BadArgument, value, Counters.everything, program=value)

    def test_everything(self):
        self.assertIsInstance(vars(Counters)["everything"], staticmethod)
        for program in all_programs():
            self.only(Counters.everything(program).listed(), all_counters(program))
            self.assertEqual(Counters.everything(program=program), Counters.everything(program))


class SetTests(Checks):

    def sets(self):
        """All sets of at most two counters of the fork, and all of its counters."""
        small = [Counters(fork(), *given) for many in (0, 1, 2) for given in itertools.combinations(FORK, many)]
        return [*small, Counters.everything(fork())]

    def test_counters_in_a_set(self):
        made = Counters(fork(), ("runs",), ("place", "b"))
        for counter in FORK:
            self.assertIs(counter in made, counter in (("runs",), ("place", "b")))
        for value in NO_COUNTERS:
            self.assertIs(value in made, False)
            self.assertIs(value in Counters.everything(fork()), False)

    def test_sums_and_differences(self):
        for one in self.sets():
            for other in self.sets():
                both = [counter for counter in FORK if counter in one or counter in other]
                rest = [counter for counter in FORK if counter in one and counter not in other]
                before = one.listed(), other.listed()
                self.only((one + other).listed(), both)
                self.only((one - other).listed(), rest)
                self.assertEqual(one + other, Counters(fork(), *both))
                self.assertEqual(one - other, Counters(fork(), *rest))
                self.assertEqual((one.listed(), other.listed()), before)

    def test_other_names_keep_their_sets(self):
        one = kept = Counters(fork(), ("way", "x"))
        other = Counters(fork(), ("way", "x"), ("runs",))
        one += other
        self.only(one.listed(), [("way", "x"), ("runs",)])
        self.only(kept.listed(), [("way", "x")])
        grown = one
        one -= kept
        self.only(one.listed(), [("runs",)])
        self.only(grown.listed(), [("way", "x"), ("runs",)])
        self.only(kept.listed(), [("way", "x")])
        self.only(other.listed(), [("way", "x"), ("runs",)])
        one -= one
        self.only(one.listed(), [])

    def test_wrong_partners(self):
        one = Counters(fork(), ("runs",))
        unlike = Program({"x": ("a", "b"), "y": ("a", "b"), "z": ("b", "a")}, "a", ["a", "b"])
        for value in [*ODD_VALUES, 0, ("runs",), [("runs",)], fork(), Counters(unlike), Counters(loop(), ("runs",))]:
            self.fails(BadArgument, value, lambda: one + value)
            self.fails(BadArgument, value, lambda: one - value)
            kept = one
            with self.assertRaises(BadArgument):
                kept += value
            with self.assertRaises(BadArgument) as caught:
                kept -= value
            self.assertIs(caught.exception.value, value)
            self.assertIs(kept, one)
            self.only(one.listed(), [("runs",)])

    def test_equal_and_unlike_sets(self):
        for at, one in enumerate(self.sets()):
            for other_at, other in enumerate(self.sets()):
                self.assertIs(one == other, at == other_at)
                self.assertIs(one != other, at != other_at)
        turned = Program({"z": ("b", "a"), "y": ("a", "b"), "x": ("a", "b")}, "a", ["b"])
        self.assertIs(Counters(turned, ("runs",), ("way", "x")) == Counters(fork(), ("way", "x"), ("runs",)), True)

    def test_sets_of_unlike_programs(self):
        ways = {"x": ("a", "b"), "y": ("b", "a")}
        made = [Program(ways, "a", ["a"]), Program(ways, "b", ["a"]), Program(ways, "a", ["b"]), fork()]
        for at, program in enumerate(made):
            for other_at, other in enumerate(made):
                self.assertIs(Counters(program, ("runs",)) == Counters(other, ("runs",)), at == other_at)
                self.assertIs(Counters(program) == Counters(other), at == other_at)

    def test_values_of_other_classes(self):
        one = Counters(fork(), ("runs",))
        for value in [*ODD_VALUES, 0, [("runs",)], (("runs",),), fork()]:
            self.assertIs(one == value, False)
            self.assertIs(one != value, True)
        self.assertIs(fork() == one, False)


if __name__ == "__main__":
    unittest.main()
