"""Tests of countededges.console."""

import random
import types
import unittest

from countededges.console import answer, talk
from countededges.counters import Counters, all_counters
from countededges.errors import (
    BadArgument, BadCommand, BadCounter, BadName, BadNumber, BadRun, BadText, CountError, NameTaken, NothingToUndo, Rings,
    UnknownName)
from countededges.logs import log_twins
from countededges.lots import Lot
from countededges.notes import write_counter, write_note
from countededges.numbers import Numbering
from countededges.ones import twins
from countededges.programs import Program
from countededges.sessions import Session
from countededges.telling import tells, untold
from tests.samples import (
    ODD_FULL_VALUES, ODD_VALUES, SOUR, Checks, all_programs, diamond, fork, ladder, loop, maze, small_programs, some_sets,
    split)

COMMANDS = ["program", "counters", "add", "take", "drop", "undo", "show", "names", "told", "untold", "one", "logs",
            "number", "run", "many"]

NO_SESSIONS = [*ODD_VALUES, 0, fork(), Counters(fork()), Lot.of(fork()), {"p": fork()}]


def two():
    """A program of four runs."""
    return Program({"p": ("a", "b"), "q": ("a", "b"), "r": ("b", "c"), "s": ("b", "c")}, "a", ["c"])


def filled():
    """A session with programs and counters."""
    session = Session()
    session["f"] = fork()
    session["t"] = two()
    session["n"] = Counters(fork(), ("way", "x"), ("runs",))
    session["m"] = Counters(two(), ("way", "p"), ("way", "r"))
    return session


class ConsoleChecks(Checks):
    """Checks of answers."""

    def says(self, session, line, expected):
        """Checks the answer to a line."""
        told = answer(session, line)
        self.assertIs(told.__class__, str)
        self.assertEqual(told, expected, line)

    def refuses(self, error, value, session, line):
        """Checks that a line raises this error with an equal value, and changes nothing."""
        before = session.text()
        with self.assertRaises(error, msg=line) as caught:
            answer(session, line)
        self.assertIs(caught.exception.__class__, error)
        self.assertEqual(list(vars(caught.exception).values()), [value])
        self.assertEqual([one.__class__ for one in vars(caught.exception).values()], [value.__class__])
        self.assertEqual(session.text(), before)


class KeepingTests(ConsoleChecks):

    def test_programs(self):
        session = Session()
        self.says(session, "program p a c,d x:a:b y:b:c z:b:d", "ok")
        self.assertEqual(session.program_of("p"), Program({"x": ("a", "b"), "y": ("b", "c"), "z": ("b", "d")}, "a", [
            "c", "d"]))
        self.says(session, "program p a b x:a:b", "ok")
        self.assertEqual(session.program_of("p"), Program.row("x"))
        for program in [*all_programs(), *small_programs(20)]:
            self.says(session, "program q " + write_note(program)[len("program "):], "ok")
            self.assertEqual(session.program_of("q"), program)

    def test_wrong_programs(self):
        session = filled()
        for rest in ("a b", "a b x", "a b x:a:c", "a b,b x:a:b", "a c,b x:a:b y:b:c", "a b y:a:b x:a:b", "A b x:A:b",
                     "program a b x:a:b", "a b x:a:b ; counters", "a b x:a:b\n", "a b x:a:b x:a:b", "counters way:x"):
            self.refuses(BadText, "program " + rest, session, "program new " + rest)
            self.refuses(BadText, "program " + rest, session, "program f " + rest)
            self.refuses(BadText, "program " + rest, session, "program n " + rest)
            self.refuses(BadName, "New", session, "program New " + rest)
        self.refuses(NameTaken, "n", session, "program n a b x:a:b")
        for name in ("P", "p1", "abcdefghi", "p,", "p\n"):
            self.refuses(BadName, name, session, f"program {name} a b x:a:b")

    def test_counters(self):
        session = filled()
        self.says(session, "counters k f", "ok")
        self.assertEqual(session.counters_of("k"), Counters(fork()))
        self.says(session, "counters k f runs way:z place:a stop:b", "ok")
        self.assertEqual(session.counters_of("k"), Counters(fork(), ("way", "z"), ("place", "a"), ("stop", "b"), ("runs",)))
        self.says(session, "counters n t way:q", "ok")
        self.assertEqual(session.counters_of("n"), Counters(two(), ("way", "q")))

    def test_wrong_counters(self):
        session = filled()
        self.refuses(BadName, "K", session, "counters K f")
        self.refuses(BadName, "K", session, "counters K none x")
        self.refuses(BadName, "abcdefghi", session, "counters abcdefghi n x")
        self.refuses(UnknownName, "none", session, "counters k none")
        self.refuses(UnknownName, "F", session, "counters k F x")
        self.refuses(UnknownName, "none", session, "counters f none x")
        self.refuses(BadName, "n", session, "counters k n")
        self.refuses(BadName, "n", session, "counters f n x way:x")
        for word in ("x", "way", "way:", "way:X", "Runs", "way:x:y", "way:x,", "runs:", "way:x\n"):
            self.refuses(BadText, word, session, f"counters k f {word}")
            self.refuses(BadText, word, session, f"counters k f runs way:none {word} zz")
            self.refuses(BadText, word, session, f"counters f f runs {word}")
        self.refuses(BadCounter, ("way", "none"), session, "counters k f runs way:none stop:a")
        self.refuses(BadCounter, ("stop", "a"), session, "counters f f stop:a")
        self.refuses(BadCounter, ("runs",), session, "counters k f runs way:x runs")
        self.refuses(NameTaken, "f", session, "counters f t runs")

    def test_add_and_take(self):
        session = filled()
        self.says(session, "add n way:y", "ok")
        self.says(session, "take n way:x", "ok")
        self.assertEqual(session.counters_of("n"), Counters(fork(), ("way", "y"), ("runs",)))
        for word in ("add", "take"):
            self.refuses(UnknownName, "none", session, f"{word} none runs")
            self.refuses(UnknownName, "N", session, f"{word} N x")
            self.refuses(BadName, "f", session, f"{word} f x")
            self.refuses(BadName, "f", session, f"{word} f runs")
            self.refuses(BadText, "x", session, f"{word} n x")
            self.refuses(BadText, "way:X", session, f"{word} n way:X")
            self.refuses(BadCounter, ("way", "none"), session, f"{word} n way:none")
        self.refuses(BadCounter, ("runs",), session, "add n runs")
        self.refuses(BadCounter, ("way", "x"), session, "take n way:x")

    def test_drop_and_undo(self):
        session = filled()
        self.says(session, "drop f", "ok")
        self.says(session, "drop n", "ok")
        self.assertEqual(session.names(), ["m", "t"])
        self.refuses(UnknownName, "f", session, "drop f")
        self.refuses(UnknownName, "F", session, "drop F")
        for names in (["m", "n", "t"], ["f", "m", "n", "t"], ["f", "n", "t"], ["f", "t"], ["f"], []):
            self.says(session, "undo", "ok")
            self.assertEqual(session.names(), names)
        before = session.text()
        self.assertRaises(NothingToUndo, answer, session, "undo")
        self.assertEqual(session.text(), before)

    def test_each_command_that_keeps_is_one_step(self):
        session = Session()
        lines = ["program f a b x:a:b y:a:b z:b:a", "counters n f way:x", "add n runs", "take n way:x", "drop f"]
        texts = [session.text()]
        for line in lines:
            self.says(session, line, "ok")
            texts.append(session.text())
        for line in ("show n", "names", "told n runs", "untold n", "one n", "logs n", "show none", "add n runs"):
            try:
                answer(session, line)
            except CountError:
                pass
            self.assertEqual(session.text(), texts[-1])
        for text in texts[-2::-1]:
            self.says(session, "undo", "ok")
            self.assertEqual(session.text(), text)


class AskingTests(ConsoleChecks):

    def test_show(self):
        session = filled()
        self.says(session, "show n", "counters way:x runs")
        self.says(session, "show f", "program a b x:a:b y:a:b z:b:a")
        self.refuses(UnknownName, "none", session, "show none")
        self.refuses(UnknownName, "N", session, "show N")
        self.refuses(UnknownName, "n\n", session, "show n\n")

    def test_names(self):
        self.says(filled(), "names", "f m n t")
        self.says(Session(), "names", "none")

    def test_told_and_untold(self):
        for program in [*all_programs(), split(), *small_programs(15)]:
            for counters in some_sets(program, 2):
                session = Session()
                session["n"] = counters
                for target in all_counters(program):
                    self.says(session, f"told n {write_counter(target)}", "yes" if tells(counters, target) else "no")
                listed = " ".join(write_counter(target) for target in untold(counters))
                self.says(session, "untold n", listed or "none")

    def test_known_ones(self):
        session = filled()
        self.says(session, "told n stop:b", "yes")
        self.says(session, "told n way:y", "no")
        self.says(session, "untold n", "way:y way:z place:a place:b")
        self.says(session, "one n", "rings")
        self.says(session, "one m", "yes")
        self.says(session, "logs n", "no")
        self.says(session, "logs m", "yes")
        answer(session, "take m way:p")
        self.says(session, "one m", "no")
        self.says(session, "logs m", "no")

    def test_one_and_logs(self):
        for program in [*all_programs(), split(), *small_programs(15), *small_programs(15, rings=False)]:
            for counters in some_sets(program, 3):
                session = Session()
                session["n"] = counters
                self.says(session, "logs n", "yes" if log_twins(counters) is None else "no")
                if program.find_ring() is None:
                    self.says(session, "one n", "yes" if twins(counters) is None else "no")
                else:
                    self.says(session, "one n", "rings")

    def test_names_of_counters(self):
        session = filled()
        for line in ("told {} runs", "told {} x", "untold {}", "one {}", "logs {}"):
            self.refuses(UnknownName, "none", session, line.format("none"))
            self.refuses(UnknownName, "N", session, line.format("N"))
            self.refuses(BadName, "f", session, line.format("f"))
        self.refuses(BadText, "x", session, "told n x")
        self.refuses(BadText, "way:", session, "told n way:")
        self.refuses(BadCounter, ("way", "p"), session, "told n way:p")
        self.refuses(BadCounter, ("stop", "a"), session, "told n stop:a")


class NumberTests(ConsoleChecks):

    def test_numbers_and_runs(self):
        for program in [two(), diamond(), split(), ladder(3), Program.row("x"), *small_programs(15, rings=False)]:
            session = Session()
            session["p"] = program
            numbering = Numbering(program)
            self.says(session, "many p", str(numbering.many))
            for number, run in enumerate(numbering.all_runs()):
                self.says(session, " ".join(["number p", *run]), str(number))
                self.says(session, f"run p {number}", " ".join(run) or "none")

    def test_known_ones(self):
        session = filled()
        self.says(session, "number t q r", "2")
        self.says(session, "run t 3", "q s")
        self.says(session, "many t", "4")
        session["s"] = split()
        self.says(session, "number s", "0")
        self.says(session, "run s 0", "none")
        session["l"] = ladder(20)
        many = Numbering(ladder(20)).many
        self.says(session, "many l", str(many))
        self.says(session, f"run l {many - 1}", " ".join(Numbering(ladder(20)).run(many - 1)))

    def test_names_of_programs(self):
        session = filled()
        for line in ("number {}", "number {} x", "run {} 0", "many {}"):
            self.refuses(UnknownName, "none", session, line.format("none"))
            self.refuses(UnknownName, "T", session, line.format("T"))
            self.refuses(BadName, "m", session, line.format("m"))
            before = session.text()
            with self.assertRaises(Rings) as caught:
                answer(session, line.format("f"))
            self.assertEqual(caught.exception.ring, fork().find_ring())
            self.assertEqual(session.text(), before)

    def test_what_is_no_run_or_number(self):
        session = filled()
        for ways in ([], ["p"], ["p", "p"], ["r", "p"], ["p", "r", "s"], ["p", "X"], ["way:p", "r"], ["none"]):
            self.refuses(BadRun, ways, session, " ".join(["number t", *ways]))
        for number in (4, 5, 10**40, 10**41 - 1):
            self.refuses(BadNumber, number, session, f"run t {number}")

    def test_figures_that_are_none(self):
        session = filled()
        for word in ("00", "01", "007", "-1", "+1", "-0", "1.0", "1_0", "x", "0x1", "1,", "1\n", "\u0661", "\u00b2",
                     "1" * 42, "0" * 42, "9" * 100, "1e3", "\uff11", "1\u2003"):
            for name in ("t", "none", "m", "f", "T"):
                self.refuses(BadCommand, f"run {name} {word}", session, f"run {name} {word}")
        self.refuses(BadNumber, 10**40, session, "run t 1" + "0" * 40)
        self.refuses(BadNumber, int("9" * 41), session, "run t " + "9" * 41)


class CommandTests(ConsoleChecks):

    def test_values_that_are_no_commands(self):
        session = filled()
        before = session.text()
        for value in [*ODD_FULL_VALUES, [], (), {}, 0, b"names", ["names"], ("names",), session]:
            self.fails(BadCommand, value, answer, session, value)
            self.fails(BadCommand, value, answer, line=value, session=session)
        self.assertEqual(session.text(), before)

    def test_lines_that_are_no_commands(self):
        session = filled()
        for line in ("", " ", "  ", "name", "Names", "names ", " names", "names\n", "names x", "undo x", "undo ", " undo",
                     "show", "show ", "show  n", " show n", "show n ", "show n n", "show\tn", "showing n", "SHOW n", "drop",
                     "drop n m", "add", "add n", "add n runs runs", "add  n runs", "add n  runs", "take n",
                     "take n runs way:x", "told", "told n", "told n runs runs", "untold", "untold n runs", "one", "one n m",
                     "logs", "logs n m", "number", "number ", "number  t", "number t  p", "run", "run t", "run t 1 2",
                     "run t  1", "many", "many t f", "program", "program p", "program p a", "program p a ", "program  p a b",
                     "program p a b  x:a:b", "program p a b x:a:b ", "counters", "counters n", "counters n ", "counters  n t",
                     "counters n t ", "counters n t  runs", "put p", "read", "text", "x", "told:n", "names names",
                     "program none a", "counters N"):
            self.refuses(BadCommand, line, session, line)

    def test_too_few_and_too_many_words(self):
        least = {"program": 3, "counters": 2, "add": 2, "take": 2, "drop": 1, "undo": 0, "show": 1, "names": 0, "told": 2,
                 "untold": 1, "one": 1, "logs": 1, "number": 1, "run": 2, "many": 1}
        self.assertEqual(sorted(least), sorted(COMMANDS))
        for word in COMMANDS:
            for many in range(7):
                line = " ".join([word, *["1"] * many])
                wrong = many < least[word] or (many > least[word] and word not in ("program", "counters", "number"))
                try:
                    answer(filled(), line)
                    refused = False
                except CountError as error:
                    refused = error.__class__ is BadCommand
                self.assertIs(refused, wrong, line)

    def test_wrong_sessions_are_told_first(self):
        for value in NO_SESSIONS:
            self.fails(BadArgument, value, answer, value, "names")
            self.fails(BadArgument, value, answer, value, None)
            self.fails(BadArgument, value, answer, line=SOUR, session=value)

    def test_by_name(self):
        self.assertEqual(answer(line="names", session=filled()), "f m n t")

    def test_any_lines(self):
        chance = random.Random(1)
        words = [*COMMANDS, "n", "m", "f", "t", "none", "way:x", "runs", "x", "0", "3", "a", "b", "x:a:b", ""]
        session = filled()
        seen = []
        for at in range(4000):
            line = " ".join(chance.choice(words) for many in range(chance.randint(1, 5)))
            before = session.text()
            try:
                told = answer(session, line)
                seen.append("answer")
                self.assertIs(told.__class__, str)
                self.assertNotEqual(told, "")
            except CountError as error:
                seen.append(error.__class__.__name__)
                self.assertEqual(session.text(), before)
            if len(session) < 2:
                session = filled()
        for name in ("answer", "BadCommand", "UnknownName", "BadName", "BadText", "BadRun", "Rings"):
            self.assertIn(name, seen)


class TalkTests(ConsoleChecks):

    def test_answers_in_order(self):
        session = Session()
        lines = ["program p a c,d x:a:b y:b:c z:b:d", "counters n p way:x runs", "untold n", "names", "x", "add n way:y",
                 "add n way:y", "told n stop:d", None, "show n", "undo", "show n", "run p 1", "run p 9", 7, "many p"]
        expected = ["ok", "ok", "way:y way:z place:c place:d stop:c stop:d", "n p", "refused", "ok", "refused", "yes",
                    "refused", "counters way:x way:y runs", "ok", "counters way:x runs", "x z", "refused", "refused", "2"]
        before = list(lines)
        self.assertEqual(list(talk(session, lines)), expected)
        self.assertEqual(lines, before)

    def test_it_is_a_generator(self):
        session = Session()
        told = talk(lines=["program p a b x:a:b", "program q a b x:a:b", "drop p"], session=session)
        self.assertIsInstance(told, types.GeneratorType)
        for names in ([], ["p"], ["p", "q"], ["q"]):
            self.assertEqual(session.names(), names)
            next(told, None)
        self.assertEqual(session.names(), ["q"])
        self.assertRaises(StopIteration, next, told)

    def test_no_lines(self):
        session = filled()
        self.assertEqual(list(talk(session, [])), [])

    def test_lines_that_are_refused_change_nothing(self):
        session = filled()
        before = session.text()
        lines = ["names ", "", "show none", "add n runs", "take n way:y", "drop none", "program n a b x:a:b",
                 "program new a b", "counters f f", "counters k n", "counters k f x", "counters k f runs runs", "number f",
                 "number t p", "run t 4", "many f", "told n x", "told n way:p", *ODD_VALUES]
        for told in talk(session, lines):
            self.assertEqual(told, "refused")
            self.assertEqual(session.text(), before)
        for many in range(4):
            session.undo()
        self.assertRaises(NothingToUndo, session.undo)
        self.assertEqual(list(talk(session, ["undo"])), ["refused"])

    def test_lines_that_are_changed_meanwhile(self):
        session = filled()
        lines = ["names", "drop f", "names"]
        told = talk(session, lines)
        self.assertEqual(next(told), "f m n t")
        lines.clear()
        self.assertEqual(list(told), ["ok", "m n t"])
        lines = ["names"]
        told = talk(session, lines)
        lines[0] = "show m"
        self.assertEqual(list(told), ["counters way:p way:r"])

    def test_what_the_caller_does_meanwhile(self):
        session = filled()
        told = talk(session, ["names", "names"])
        self.assertEqual(next(told), "f m n t")
        session.drop("f")
        self.assertEqual(next(told), "m n t")

    def test_wrong_arguments(self):
        for value in NO_SESSIONS:
            for lines in (["names"], [], None):
                told = talk(value, lines)
                self.fails(BadArgument, value, next, told)
            told = talk(lines=SOUR, session=value)
            self.fails(BadArgument, value, next, told)
        for value in [*[one for one in ODD_VALUES if one.__class__ is not list], 0, "names", ("names",), {"names": 1}]:
            told = talk(filled(), value)
            self.fails(BadArgument, value, next, told)
            told = talk(lines=value, session=filled())
            self.fails(BadArgument, value, next, told)

    def test_all_of_it(self):
        session = Session()
        for program in (loop(), maze(), two()):
            note = write_note(program)[len("program "):]
            lines = [f"program p {note}", "counters n p", "logs n", "one n", "drop n", "drop p", "names"]
            expected = ["ok", "ok", "no", "rings" if program.find_ring() else "no", "ok", "ok", "none"]
            self.assertEqual(list(talk(session, lines)), expected)


if __name__ == "__main__":
    unittest.main()
