"""Tests of countededges.programs: words and programs."""

import collections
import doctest
import unittest

from countededges import programs
from countededges.errors import BadPlace, BadProgram, BadWay
from countededges.programs import Program, is_word
from tests.samples import ODD_VALUES, SAME, SOUR, Checks, all_programs, diamond, fork, loop, maze, words

EXAMPLE = """
>>> from countededges.programs import Program, runs_to
>>> fork = Program({"x": ("a", "b"), "y": ("a", "b"), "z": ("b", "a")}, "a", ["b"])
>>> (fork["z"], fork.find_ring(), list(runs_to(fork, 1)))
(('b', 'a'), ['x', 'z'], [['x'], ['y']])
"""


class ExampleTests(unittest.TestCase):

    def test_the_example_of_the_document(self):
        example = doctest.DocTestParser().get_doctest(EXAMPLE, {}, "example", None, None)
        ran = doctest.DocTestRunner().run(example)
        self.assertEqual((ran.failed, ran.attempted), (0, 3))


class WordTests(Checks):

    def test_words(self):
        for value in ("a", "z", "m", "ab", "zzzzzzzz", "abcdefgh", "ijklmnop", "qrstuvwx", "yz"):
            self.assertIs(is_word(value), True, value)

    def test_texts_that_are_no_words(self):
        for value in ("", "abcdefghi", "a" * 100, "A", "aB", "Ab", "a1", "1", "a b", " a", "a ", " ", "a\n", "\n", "a_",
                      "a-b", "a.", "`", "{", "\u00e9", "a\u00e9", "\u00df", "\u0430", "\u00aa", "\uff41", "\x00"):
            self.assertIs(is_word(value), False, value)

    def test_values_that_are_no_texts(self):
        for value in [*ODD_VALUES, 0, 1, -1, ["a"], ("a",), b"a", {"a": "a"}]:
            self.assertIs(is_word(value), False)

    def test_by_name(self):
        self.assertIs(is_word(value="a"), True)


class MakingTests(Checks):

    def test_ordinary_programs(self):
        for program in all_programs():
            again = Program({way: program[way] for way in program.ways()}, program.begin, program.exits())
            self.assertEqual(program, again)

    def test_by_name(self):
        made = Program(exits=["b"], begin="a", ways={"x": ("a", "b"), "y": ("a", "b"), "z": ("b", "a")})
        self.assertEqual(made, fork())

    def test_a_way_and_a_place_of_the_same_word(self):
        program = Program({"a": ("a", "b"), "b": ("b", "a")}, "a", ["a"])
        self.assertEqual(program["a"], ("a", "b"))
        self.only(program.leaving("a"), ["a"])
        self.only(program.entering("a"), ["b"])

    def test_one_to_forty_ways(self):
        for many in (1, 2, 39, 40):
            program = Program({word: ("a", "b") for word in words(many)}, "a", ["b"])
            self.assertEqual(len(program), many)
        row = {word: (f"p{word}", f"p{after}") for word, after in zip(words(40), words(41)[1:])}
        program = Program(row, "paa", ["pbo"])
        self.assertEqual((len(program), len(program.places())), (40, 41))
        self.fails_by_part("ways", {}, "a", ["b"])
        for many in (41, 42, 100):
            self.fails_by_part("ways", {word: ("a", "b") for word in words(many)}, "a", ["b"])

    def test_ways_that_are_no_dict(self):
        pair = ("a", "b")
        for value in [*ODD_VALUES, 3, "x", [("x", "a", "b")], [("x", pair)], (("x", pair),), [{"x": pair}]]:
            self.fails_by_part("ways", value, "a", ["b"])

    def test_wrong_keys_and_worths_in_the_dict(self):
        for way in ("", "X", "abcdefghi", "x y", 0, 1, None, True, b"x", ("x",), frozenset(), SAME):
            self.fails_by_part("ways", {way: ("a", "b")}, "a", ["b"])
            self.fails_by_part("ways", {"y": ("a", "b"), way: ("a", "b")}, "a", ["b"])
        for link in ("ab", ["a", "b"], ("a",), ("a", "b", "c"), (), ("a", "B"), ("A", "b"), ("a", ""), ("", "b"),
                     ("a", 1), (True, "b"), ("a", None), ("a", ["b"]), (("a",), "b"), None, 0, {"a": "b"}, {"a", "b"},
                     ("a", b"b"), ("a", SAME), (SOUR, "b"), ("a", "abcdefghi"), ("abcdefghi", "a"), SAME, SOUR):
            self.fails_by_part("ways", {"x": link}, "a", ["b"])
            self.fails_by_part("ways", {"x": ("a", "b"), "y": link}, "a", ["b"])

    def test_wrong_begins(self):
        for begin in [*ODD_VALUES, 0, 1, "c", "x", ["a"], ("a",), b"a"]:
            self.fails_by_part("begin", {"x": ("a", "b"), "y": ("b", "a")}, begin, ["b"])

    def test_wrong_exits(self):
        for exits in [*ODD_VALUES, 0, "b", ("b",), {"b"}, {"b": True}, [], ["c"], ["x"], ["b", "b"], ["a", "b", "a"],
                      ["b", "c"], ["c", "b"], ["b", 1], [True], [None], [["b"]], [("b",)], [SAME], ["b", SOUR], [""],
                      iter(["b"]), "ab"]:
            self.fails_by_part("exits", {"x": ("a", "b"), "y": ("b", "a")}, "a", exits)

    def test_places_that_cannot_be_come_to(self):
        self.fails_by_part("reach", {"x": ("a", "b"), "y": ("c", "b")}, "a", ["b"])
        self.fails_by_part("reach", {"x": ("a", "b")}, "b", ["b"])
        self.fails_by_part("reach", {"x": ("a", "b"), "y": ("c", "d"), "z": ("d", "c")}, "a", ["b", "d"])
        self.fails_by_part("reach", {"x": ("a", "a"), "y": ("b", "b")}, "a", ["a", "b"])

    def test_places_that_cannot_be_left_for_an_exit(self):
        self.fails_by_part("leave", {"x": ("a", "b"), "y": ("a", "c")}, "a", ["b"])
        self.fails_by_part("leave", {"x": ("a", "b")}, "a", ["a"])
        self.fails_by_part("leave", {"x": ("a", "b"), "y": ("a", "c"), "z": ("c", "c")}, "a", ["b"])
        self.fails_by_part("leave", {"x": ("a", "b"), "y": ("b", "c"), "z": ("c", "b")}, "a", ["a"])

    def test_the_first_wrong_part_is_told(self):
        ways = {"x": ("a", "b"), "y": ("c", "d")}
        self.fails_by_part("ways", {"x": ["a", "b"]}, "q", [])
        self.fails_by_part("begin", ways, "q", [])
        self.fails_by_part("exits", ways, "a", [])
        self.fails_by_part("exits", ways, "a", ["b", "q"])
        self.fails_by_part("reach", ways, "a", ["a"])
        self.fails_by_part("leave", {"x": ("a", "b"), "y": ("a", "d")}, "a", ["b"])

    def test_exits_in_any_order(self):
        ways = {"x": ("a", "b"), "y": ("b", "c")}
        made = Program(ways, "a", ["c", "a", "b"])
        self.only(made.exits(), ["a", "b", "c"])
        self.assertEqual(made, Program(ways, "a", ["b", "c", "a"]))

    def test_given_values_are_neither_changed_nor_kept(self):
        ways = {"z": ("b", "a"), "x": ("a", "b"), "y": ("a", "b")}
        exits = ["b", "a"]
        made = Program(ways, "a", exits)
        self.assertEqual(list(ways.items()), [("z", ("b", "a")), ("x", ("a", "b")), ("y", ("a", "b"))])
        self.assertEqual(exits, ["b", "a"])
        ways["x"] = ("b", "c")
        ways["w"] = ("a", "b")
        del ways["z"]
        exits.append("c")
        exits.remove("b")
        same = Program({"x": ("a", "b"), "y": ("a", "b"), "z": ("b", "a")}, "a", ["a", "b"])
        self.assertEqual(made, same)
        self.only(made.ways(), ["x", "y", "z"])
        self.only(made.exits(), ["a", "b"])

    def test_dicts_and_tuples_of_a_finer_kind_are_taken_as_plain_ones(self):
        pair = collections.namedtuple("pair", "source goal")
        made = Program(collections.OrderedDict(x=pair("a", "b")), "a", ["b"])
        self.assertIs(made["x"].__class__, tuple)
        self.assertEqual(made, Program({"x": ("a", "b")}, "a", ["b"]))


class ReadingTests(Checks):

    def test_lists_are_ascending(self):
        self.only(diamond().ways(), ["a", "p", "q", "r", "s"])
        self.only(diamond().places(), ["a", "b", "c", "d", "e"])
        self.only(diamond().exits(), ["d", "e"])
        self.only(maze().ways(), ["back", "go", "on", "over", "round", "stay"])
        self.only(maze().places(), ["in", "mid", "out"])
        self.only(maze().exits(), ["in", "out"])
        self.only(loop().places(), ["home"])

    def test_the_begin(self):
        self.assertIsInstance(vars(Program)["begin"], property)
        self.assertEqual([program.begin for program in all_programs()], ["a", "a", "home", "in", "a", "a"])
        with self.assertRaises(AttributeError):
            fork().begin = "b"

    def test_the_ways_of_a_place(self):
        self.only(maze().leaving("mid"), ["back", "on", "stay"])
        self.only(maze().entering("mid"), ["go", "round", "stay"])
        self.only(maze().leaving("in"), ["go", "over"])
        self.only(maze().entering("in"), ["back"])
        self.only(diamond().leaving("d"), [])
        self.only(diamond().entering("a"), [])
        self.only(loop().leaving("home"), ["again"])
        self.only(loop().entering("home"), ["again"])
        self.only(fork().leaving(place="a"), ["x", "y"])
        self.only(fork().entering(place="b"), ["x", "y"])

    def test_wrong_places(self):
        for value in [*ODD_VALUES, 0, "c", "x", ["a"], ("a",)]:
            self.fails(BadPlace, value, fork().leaving, value)
            self.fails(BadPlace, value, fork().entering, value)
            self.fails(BadPlace, value, fork().leaving, place=value)
            self.fails(BadPlace, value, fork().entering, place=value)

    def test_reading_ways(self):
        program = maze()
        self.assertEqual(program["on"], ("mid", "out"))
        self.assertEqual(program["stay"], ("mid", "mid"))
        self.assertIs(program["on"].__class__, tuple)
        for value in [*ODD_VALUES, 0, "in", "mid", "of", ["on"], ("on",), b"on", slice("on", "over")]:
            self.fails(BadWay, value, lambda: program[value])

    def test_ways_in_a_program(self):
        program = maze()
        for way in program.ways():
            self.assertIs(way in program, True)
        for value in [*ODD_VALUES, 0, "in", "mid", "of", ["on"], ("on",), b"on"]:
            self.assertIs(value in program, False)
            self.assertIs(value not in program, True)

    def test_the_number_of_ways(self):
        self.assertEqual([len(program) for program in all_programs()], [3, 5, 1, 6, 1, 4])

    def test_returned_lists_belong_to_the_caller(self):
        program = maze()
        calls = [program.ways, program.places, program.exits, program.find_ring,
                 lambda: program.leaving("mid"), lambda: program.entering("mid")]
        for call in calls:
            before = list(call())
            call().append("more")
            call().reverse()
            call().clear()
            self.only(call(), before)
        self.assertEqual(program, maze())

    def test_a_program_is_not_iterated_over(self):
        with self.assertRaises(TypeError):
            list(fork())

    def test_after_an_error_all_is_as_before(self):
        program = fork()
        for call in (lambda: program["q"], lambda: program.leaving("q"), lambda: program.entering([])):
            with self.assertRaises((BadWay, BadPlace)):
                call()
        self.assertEqual(program, fork())


class EqualTests(Checks):

    def test_equal_programs(self):
        for program, again in zip(all_programs(), all_programs()):
            self.assertIs(program == again, True)
            self.assertIs(program != again, False)
        turned = Program({"z": ("b", "a"), "y": ("a", "b"), "x": ("a", "b")}, "a", ["b"])
        self.assertIs(turned == fork(), True)

    def test_unlike_programs(self):
        ways = {"x": ("a", "b"), "y": ("b", "a")}
        made = [Program(ways, "a", ["a"]), Program(ways, "b", ["a"]), Program(ways, "a", ["b"]),
                Program(ways, "a", ["a", "b"]), Program({"x": ("b", "a"), "y": ("a", "b")}, "a", ["a"]),
                Program({"x": ("a", "b"), "z": ("b", "a")}, "a", ["a"]), *all_programs()]
        for at, program in enumerate(made):
            for other_at, other in enumerate(made):
                self.assertIs(program == other, at == other_at)
                self.assertIs(program != other, at != other_at)

    def test_values_of_other_classes(self):
        ways = {"x": ("a", "b"), "y": ("a", "b"), "z": ("b", "a")}
        for value in [*ODD_VALUES, 0, ways, (ways, "a", ["b"])]:
            self.assertIs(fork() == value, False)
            self.assertIs(fork() != value, True)


class RingTests(Checks):

    def is_ring(self, program, ring):
        """Whether a list leads from a place back to it."""
        links = [program[way] for way in ring]
        follow = all(one[1] == other[0] for one, other in zip(links, links[1:]))
        return len(ring) > 0 and follow and links[-1][1] == links[0][0]

    def test_programs_with_rings(self):
        away = Program({"x": ("a", "b"), "y": ("b", "c"), "z": ("c", "b"), "w": ("c", "d")}, "a", ["d"])
        late = Program({"x": ("a", "b"), "y": ("b", "c"), "z": ("c", "c")}, "a", ["c"])
        long = {word: (f"p{word}", f"p{after}") for word, after in zip(words(40), [*words(40)[1:], "aa"])}
        for program in (fork(), loop(), maze(), away, late, Program(long, "paa", ["pab"])):
            ring = program.find_ring()
            self.assertIs(ring.__class__, list)
            self.assertTrue(self.is_ring(program, ring), ring)
            self.assertEqual(program.find_ring(), ring)
        self.assertEqual(late.find_ring(), ["z"])
        self.assertEqual(sorted(away.find_ring()), ["y", "z"])

    def test_programs_without_rings(self):
        twofold = Program({"x": ("a", "b"), "y": ("a", "b"), "z": ("a", "c"), "w": ("b", "c")}, "a", ["c"])
        for program in (diamond(), twofold, Program.row("x"), Program.row("x", "y", "z")):
            self.assertIsNone(program.find_ring())

    def test_equal_programs_tell_the_same_ring(self):
        ways = {way: maze()[way] for way in reversed(maze().ways())}
        self.assertEqual(Program(ways, "in", ["in", "out"]).find_ring(), maze().find_ring())


class RowTests(Checks):

    def test_rows(self):
        self.assertIsInstance(vars(Program)["row"], staticmethod)
        self.assertEqual(Program.row("x"), Program({"x": ("a", "b")}, "a", ["b"]))
        self.assertEqual(Program.row("z", "a", "m"),
                         Program({"z": ("a", "b"), "a": ("b", "c"), "m": ("c", "d")}, "a", ["d"]))
        self.assertEqual(fork().row("x"), Program.row("x"))

    def test_the_longest_row(self):
        given = words(25)
        program = Program.row(*given)
        self.assertEqual((len(program), program.begin, program.exits()), (25, "a", ["z"]))
        self.assertEqual(program.places(), list("abcdefghijklmnopqrstuvwxyz"))
        self.assertEqual(programs.stop_of(program, given), "z")

    def test_the_first_wrong_value(self):
        given = words(30)
        for many in (26, 27, 30):
            self.fails(BadWay, given[25], Program.row, *given[:many])
        again = "".join(["a", "b"])
        self.fails(BadWay, again, Program.row, "ab", "x", again, "x")
        for value in [*ODD_VALUES, 0, "A", ["x"]]:
            self.fails(BadWay, value, Program.row, value)
            self.fails(BadWay, value, Program.row, "x", value, "x")
            self.fails(BadWay, value, Program.row, *given[:25], value)
            self.fails(BadWay, given[25], Program.row, *given[:27], value)
            self.fails(BadWay, value, Program.row, value, *given)

    def test_no_way_at_all(self):
        with self.assertRaises(BadProgram) as caught:
            Program.row()
        self.assertEqual(caught.exception.part, "ways")


if __name__ == "__main__":
    unittest.main()
