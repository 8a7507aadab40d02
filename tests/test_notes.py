"""Tests of countededges.notes."""

import unittest

from countededges.counters import Counters, all_counters
from countededges.errors import BadArgument, BadCounter, BadText
from countededges.lots import Lot
from countededges.notes import read_counter, read_counters, read_program, write_counter, write_note
from countededges.programs import Program
from tests.samples import (
    ODD_VALUES, SAME, SOUR, Checks, all_programs, diamond, fork, great_programs, ladder, loop, maze, small_programs,
    some_sets, split, wheel, words)

EXAMPLE = "program a c,d x:a:b y:b:c z:b:d"

# None of these is a text.
NO_TEXTS = [*[value for value in ODD_VALUES if value.__class__ is not str], 0, b"program a b x:a:b", ["counters"],
            ("counters",), fork(), Counters(fork())]

NO_PROGRAM_NOTES = [
    "", " ", "program", "program ", "program a", "program a b", "program a b ", "Program a b x:a:b", "programs a b x:a:b",
    " program a b x:a:b", "program a b x:a:b ", "program  a b x:a:b", "program a  b x:a:b", "program a b  x:a:b",
    "program a b x:a:b\n", "program\ta b x:a:b", "program a b\tx:a:b", "program a b x:a:b\t", "a b x:a:b",
    "program a b x:a", "program a b x:a:b:c", "program a b x", "program a b :a:b", "program a b x::b", "program a b x:a:",
    "program a b x:a:b,", "program a b, x:a:b", "program a ,b x:a:b", "program a b,,b x:a:b", "program a b,b x:a:b",
    "program a  x:a:b", "program a , x:a:b", "program b a x:a:b", "program a a x:a:b", "program a c x:a:b",
    "program c b x:a:b", "program A b x:A:b", "program a B x:a:B", "program a b X:a:b", "program a b x:a:b y:c:b",
    "program a b x:a:b x:a:b", "program a b x:a:b x:b:a", "program a b y:a:b x:a:b", "program a c,b x:a:b y:b:c",
    "program a b x:a:b z:a:b y:a:b", "program a b x:a:c y:c:b w:a:b", "program a b abcdefghi:a:b", "program a b x1:a:b",
    "program a b x:a:b ;", "program a b x:a:b ; counters", "program a b x:a:b counters", "counters", "program a b x:a:c",
    "program a b x:a:b;y:a:b", "program a b x:a:b,y:a:b", "program a b x-a-b", "program b x:a:b", "program x:a:b",
    "program a b,a x:a:b y:b:a", "program a b x:a:b y:b:c", "program\u00a0a b x:a:b", "program a b x:a:b\u2028",
]

NO_COUNTERS_NOTES = [
    "", " ", "counters ", " counters", "Counters", "counter", "counters  way:x", "counters way:x ", "counters way:x\n",
    "counters\tway:x", "counters way:y way:x", "counters runs way:x", "counters way:x way:x", "counters runs runs",
    "counters place:a way:x", "counters stop:b place:b", "counters runs stop:b", "counters way:w", "counters way:a",
    "counters place:x", "counters stop:a", "counters way", "counters way:", "counters :x", "counters x", "counters way:x:y",
    "counters run", "counters runs:", "counters runs:x", "counters WAY:x", "counters way:X", "counters Runs", "way:x",
    "counters, way:x", "counters way:x,way:y", "counters way:x;", "program a b x:a:b y:a:b z:b:a", "counters counters",
    "countersway:x", "xcounters", "counters ways:x",
]


def programs():
    """The programs that most tests here are about."""
    return [*all_programs(), split(), ladder(3), wheel(3), *small_programs(40), *great_programs()]


class ProgramNoteTests(Checks):

    def test_the_example_of_the_document(self):
        program = Program({"z": ("b", "d"), "x": ("a", "b"), "y": ("b", "c")}, "a", ["d", "c"])
        self.assertEqual(write_note(program), EXAMPLE)
        self.assertEqual(read_program(EXAMPLE), program)

    def test_known_notes(self):
        self.assertEqual(write_note(fork()), "program a b x:a:b y:a:b z:b:a")
        self.assertEqual(write_note(loop()), "program home home again:home:home")
        self.assertEqual(write_note(diamond()), "program a d,e a:a:b p:a:c q:b:d r:c:d s:c:e")
        self.assertEqual(write_note(thing=Program.row("z", "y")), "program a c y:b:c z:a:b")

    def test_there_and_back(self):
        for program in programs():
            note = write_note(program)
            self.assertIs(note.__class__, str)
            again = read_program(note)
            self.assertIs(again.__class__, Program)
            self.assertEqual(again, program)
            self.assertEqual(write_note(again), note)
            self.assertEqual(read_program(note=note), program)

    def test_forty_ways_and_more(self):
        many = [f"{word}:a:b" for word in words(41)]
        self.assertEqual(len(read_program(" ".join(["program a b", *many[:40]]))), 40)
        note = " ".join(["program a b", *many])
        self.fails(BadText, note, read_program, note)

    def test_texts_that_are_no_note(self):
        for note in NO_PROGRAM_NOTES:
            self.fails(BadText, note, read_program, note)
            self.fails(BadText, note, read_program, note=note)

    def test_notes_with_one_character_put_otherwise(self):
        for note in (EXAMPLE, write_note(maze()), write_note(diamond())):
            for at in range(len(note)):
                for other in ("", " ", ":", ",", "a", "Z", note[at] * 2):
                    text = note[:at] + other + note[at + 1:]
                    try:
                        program = read_program(text)
                    except BadText as error:
                        self.assertIs(error.at, text)
                    else:
                        self.assertEqual(write_note(program), text)

    def test_values_that_are_no_texts(self):
        for value in NO_TEXTS:
            self.fails(BadText, value, read_program, value)
            self.fails(BadText, value, read_program, note=value)


class CountersNoteTests(Checks):

    def test_known_notes(self):
        counters = Counters(fork(), ("runs",), ("stop", "b"), ("place", "b"), ("place", "a"), ("way", "z"), ("way", "x"))
        note = "counters way:x way:z place:a place:b stop:b runs"
        self.assertEqual(write_note(counters), note)
        self.assertEqual(read_counters(fork(), note), counters)
        self.assertEqual(write_note(thing=Counters(fork())), "counters")
        self.assertEqual(read_counters(fork(), "counters"), Counters(fork()))

    def test_there_and_back(self):
        for program in programs():
            for counters in some_sets(program, 5):
                note = write_note(counters)
                self.assertIs(note.__class__, str)
                again = read_counters(program, note)
                self.assertIs(again.__class__, Counters)
                self.assertEqual(again, counters)
                self.assertEqual(read_counters(note=note, program=program), counters)

    def test_texts_that_are_no_note(self):
        for note in NO_COUNTERS_NOTES:
            self.fails(BadText, note, read_counters, fork(), note)
            self.fails(BadText, note, read_counters, note=note, program=fork())

    def test_notes_of_counters_of_another_program(self):
        note = write_note(Counters.everything(diamond()))
        self.fails(BadText, note, read_counters, fork(), note)
        self.assertEqual(read_counters(diamond(), note), Counters.everything(diamond()))

    def test_notes_with_one_character_put_otherwise(self):
        note = write_note(Counters.everything(fork()))
        for at in range(len(note)):
            for other in ("", " ", ":", "x", "y", "Z", note[at] * 2):
                text = note[:at] + other + note[at + 1:]
                try:
                    counters = read_counters(fork(), text)
                except BadText as error:
                    self.assertIs(error.at, text)
                else:
                    self.assertEqual(write_note(counters), text)

    def test_values_that_are_no_texts(self):
        for value in NO_TEXTS:
            self.fails(BadText, value, read_counters, fork(), value)
            self.fails(BadText, value, read_counters, note=value, program=fork())

    def test_wrong_programs_are_told_first(self):
        for value in [*ODD_VALUES, 0, Counters(fork()), Lot.of(fork()), write_note(fork())]:
            self.fails(BadArgument, value, read_counters, value, "counters")
            self.fails(BadArgument, value, read_counters, value, "none")
            self.fails(BadArgument, value, read_counters, note=SOUR, program=value)

    def test_wrong_things(self):
        for value in [*ODD_VALUES, 0, "program a b x:a:b", ("runs",), [("runs",)], Lot.of(fork()), {"x": ("a", "b")}]:
            self.fails(BadArgument, value, write_note, value)
            self.fails(BadArgument, value, write_note, thing=value)


class CounterWordTests(Checks):

    def test_words_of_counters(self):
        for counter, word in ((("way", "x"), "way:x"), (("place", "a"), "place:a"), (("stop", "c"), "stop:c"),
                              (("runs",), "runs"), (("way", "runs"), "way:runs"), (("stop", "stop"), "stop:stop"),
                              (("place", "abcdefgh"), "place:abcdefgh")):
            self.assertEqual(write_counter(counter), word)
            self.assertEqual(write_counter(counter=counter), word)
            self.assertEqual(read_counter(word), counter)
            self.assertEqual(read_counter(word=word), counter)
            self.assertIs(read_counter(word).__class__, tuple)

    def test_there_and_back(self):
        for program in programs():
            for counter in all_counters(program):
                self.assertEqual(read_counter(write_counter(counter)), counter)

    def test_values_without_the_form_of_a_counter(self):
        for value in [*ODD_VALUES, 0, "runs", "way:x", ["runs"], ["way", "x"], ("way",), ("way", "X"), ("way", ""),
                      ("way", "x y"), ("way", "abcdefghi"), ("way", "x:y"), ("way", 1), ("way", None), ("way", SAME),
                      ("way", SOUR), (SOUR, "x"), (SAME, "x"), (SAME,), (SOUR,), ("runs", "x"), ("way", "x", "y"),
                      ("ways", "x"), ("run",), ("x",), (("runs",),), Counters(fork(), ("runs",)), ("way", "\u00e4")]:
            self.fails(BadCounter, value, write_counter, value)
            self.fails(BadCounter, value, write_counter, counter=value)

    def test_values_that_are_no_words_of_counters(self):
        for value in [*NO_TEXTS, "", " ", "x", "way", "way:", ":x", "way:x:y", "way:X", "way:x ", " way:x", "way :x",
                      "way: x", "Way:x", "ways:x", "run", "Runs", "runs ", "runs:", "runs:x", ":runs", "way:abcdefghi",
                      "way:x1", "way:x\n", "place::a", "stop;b", "way,x", "stops:b", "way:\u00e4", "counters", ("runs",)]:
            self.fails(BadText, value, read_counter, value)
            self.fails(BadText, value, read_counter, word=value)


if __name__ == "__main__":
    unittest.main()
