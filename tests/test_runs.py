"""Tests of countededges.programs: runs."""

import itertools
import unittest

from countededges.errors import BadArgument, BadNumber, BadRun
from countededges.programs import Program, is_run, runs_to, stop_of
from tests.samples import ODD_VALUES, SAME, SOUR, Checks, all_programs, diamond, fork, loop, maze, words

WRONG_PROGRAMS = [*ODD_VALUES, 0, "program"]


def lists_to(program, most):
    """All lists of at most so many ways, shorter ones first, then ascending."""
    return [list(ways) for many in range(most + 1) for ways in itertools.product(program.ways(), repeat=many)]


def stop_by_links(program, ways):
    """Where a list of ways stops by point 4 alone, or None if it is no run."""
    links = [program[way] for way in ways]
    sources = [source for source, goal in links]
    ends = [program.begin, *[goal for source, goal in links]]
    return ends[-1] if sources == ends[:-1] and ends[-1] in program.exits() else None


class RunTests(Checks):

    def test_each_short_list_of_ways(self):
        for program in all_programs():
            for ways in lists_to(program, 4):
                stop = stop_by_links(program, ways)
                self.assertIs(is_run(program, ways), stop is not None, ways)
                if stop is None:
                    self.fails(BadRun, ways, stop_of, program, ways)
                else:
                    self.assertEqual(stop_of(program, ways), stop)

    def test_the_empty_run(self):
        self.assertIs(is_run(maze(), []), True)
        self.assertEqual(stop_of(maze(), []), "in")
        self.assertEqual(stop_of(loop(), []), "home")
        self.assertIs(is_run(fork(), []), False)
        nothing = []
        self.fails(BadRun, nothing, stop_of, fork(), nothing)

    def test_bent_lists(self):
        wrong = [["q", "r"], ["a", "r"], ["p", "q"], ["a", "q", "q"], ["a"], ["p"], ["a", "q", "a"],
                 ["a", "q", "none"], ["none"], ["a", "none", "q"], ["b", "q"], ["a", "d"]]
        for ways in wrong:
            self.assertIs(is_run(diamond(), ways), False, ways)
            self.fails(BadRun, ways, stop_of, diamond(), ways)
        for ways, stop in ((["a", "q"], "d"), (["p", "r"], "d"), (["p", "s"], "e")):
            self.assertIs(is_run(diamond(), ways), True)
            self.assertEqual(stop_of(diamond(), ways), stop)

    def test_values_that_are_no_lists_of_ways(self):
        for value in [*ODD_VALUES, 0, "x", "xzx", ("x",), {"x"}, {"x": 1}, iter(["x"]), [None], ["x", 1], ["x", ["z"]],
                      ["x", SOUR], ["x", "z", SAME], [SAME], [("way", "x")], [b"x"]]:
            self.assertIs(is_run(fork(), value), False)
            self.fails(BadRun, value, stop_of, fork(), value)

    def test_long_runs(self):
        ways = ["x", "z", "y", "z"] * 5000 + ["x"]
        self.assertIs(is_run(fork(), ways), True)
        self.assertEqual(stop_of(fork(), ways), "b")
        self.assertIs(is_run(fork(), [*ways, "z"]), False)

    def test_a_given_list_is_not_changed(self):
        ways = ["x", "z", "y"]
        self.assertEqual((is_run(fork(), ways), stop_of(fork(), ways), ways), (True, "b", ["x", "z", "y"]))

    def test_by_name(self):
        self.assertIs(is_run(value=["x"], program=fork()), True)
        self.assertEqual(stop_of(run=["x"], program=fork()), "b")
        wrong = ["z"]
        self.fails(BadRun, wrong, stop_of, run=wrong, program=fork())

    def test_the_program_is_looked_at_first(self):
        for value in WRONG_PROGRAMS:
            self.fails(BadArgument, value, is_run, value, ["x"])
            self.fails(BadArgument, value, stop_of, value, ["x"])
            self.fails(BadArgument, value, is_run, value, None)
            self.fails(BadArgument, value, stop_of, value, None)
            self.fails(BadArgument, value, stop_of, program=value, run=SOUR)


class RunsToTests(Checks):

    def test_all_runs_in_order_each_once(self):
        for program in all_programs():
            for most in range(6):
                expected = [ways for ways in lists_to(program, most) if stop_by_links(program, ways) is not None]
                self.only(list(runs_to(program, most)), expected)

    def test_up_to_eight_ways(self):
        for program in (fork(), loop()):
            for most in (6, 7, 8):
                expected = [ways for ways in lists_to(program, most) if stop_by_links(program, ways) is not None]
                self.only(list(runs_to(program, most)), expected)
        self.only(list(runs_to(loop(), 8)), [["again"] * many for many in range(9)])
        self.assertEqual(len(list(runs_to(maze(), 8))), len({tuple(run) for run in runs_to(maze(), 8)}))

    def test_no_runs_so_short(self):
        self.only(list(runs_to(fork(), 0)), [])
        self.only(list(runs_to(maze(), 0)), [[]])
        self.only(list(runs_to(Program.row("z", "y", "x", "w"), 3)), [])
        self.only(list(runs_to(Program.row("z", "y", "x", "w"), 4)), [["z", "y", "x", "w"]])
        self.only(list(runs_to(Program.row(*words(9)), 8)), [])
        self.only(list(runs_to(Program.row(*words(8)), 8)), [words(8)])

    def test_one_after_the_other(self):
        wide = Program({word: ("a", "a") for word in words(40)}, "a", ["a"])
        told = list(itertools.islice(runs_to(wide, 8), 42))
        self.assertEqual(told, [[], *[[word] for word in words(40)], ["aa", "aa"]])

    def test_runs_that_are_far_from_an_exit(self):
        ways = {word: ("a", "a") for word in words(30)}
        far = {"p": ("a", "b"), "q": ("b", "c"), "r": ("c", "d"), "s": ("d", "e"), "t": ("e", "f"), "u": ("f", "g"),
               "v": ("g", "h"), "w": ("h", "i")}
        program = Program({**ways, **far}, "a", ["i"])
        self.only(list(runs_to(program, 8)), [["p", "q", "r", "s", "t", "u", "v", "w"]])

    def test_each_run_belongs_to_the_caller(self):
        expected = list(runs_to(maze(), 5))
        told = []
        for run in runs_to(maze(), 5):
            told.append(list(run))
            run.append("more")
            run.reverse()
            del run[:2]
        self.assertEqual(told, expected)

    def test_wrong_numbers(self):
        for most in [*ODD_VALUES, -1, 9, -9, 10, 10**40, -10**40, 0.0, 1.0, "1", [1]]:
            self.fails(BadNumber, most, lambda: next(runs_to(fork(), most)))
            self.fails(BadNumber, most, lambda: list(runs_to(fork(), most)))

    def test_a_generator_raises_when_its_first_value_is_asked_for(self):
        kept = [(BadNumber, 9, runs_to(fork(), 9)), (BadNumber, True, runs_to(fork(), True)),
                (BadArgument, None, runs_to(None, 3)), (BadArgument, "p", runs_to("p", 9))]
        for error, value, generator in kept:
            self.assertIs(iter(generator), generator)
            self.fails(error, value, lambda: next(generator))

    def test_the_program_is_looked_at_first(self):
        for value in WRONG_PROGRAMS:
            self.fails(BadArgument, value, lambda: next(runs_to(value, 3)))
            self.fails(BadArgument, value, lambda: next(runs_to(value, -1)))
            self.fails(BadArgument, value, lambda: next(runs_to(most=None, program=value)))

    def test_by_name(self):
        self.only(list(runs_to(most=1, program=fork())), [["x"], ["y"]])

    def test_the_same_call_tells_the_same_again(self):
        program = maze()
        self.assertEqual(list(runs_to(program, 6)), list(runs_to(program, 6)))
        one, other = runs_to(program, 6), runs_to(program, 6)
        self.assertTrue(all(run == again for run, again in zip(one, other)))


if __name__ == "__main__":
    unittest.main()
