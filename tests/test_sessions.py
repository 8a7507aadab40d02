"""Tests of countededges.sessions."""

import random
import unittest

from countededges.counters import Counters, all_counters
from countededges.errors import (
    BadArgument, BadCounter, BadName, BadText, CountError, FailedDeed, NameTaken, NothingToUndo, UnknownName)
from countededges.lots import Lot
from countededges.notes import write_note
from countededges.programs import Program
from countededges.sessions import Session
from tests.samples import (
    ODD_FULL_VALUES, ODD_VALUES, SAME, SOUR, Checks, all_programs, diamond, fork, great_programs, loop, maze,
    small_programs, some_sets, split)

NO_NAMES = [*ODD_VALUES, 0, "P", "p1", "p q", " p", "p ", "abcdefghi", "", ["p"], ("p",), "p\n"]

NO_COUNTERS = [*ODD_VALUES, 0, "runs", "x", ["runs"], ["way", "x"], ("way",), ("way", "w"), ("way", "a"), ("place", "x"),
               ("stop", "a"), ("way", SAME), (SOUR, "x"), ("runs", "x"), ("x",), Counters(fork(), ("runs",))]

NO_THINGS = [*ODD_VALUES, 0, ("runs",), "program a b x:a:b", "counters", Lot.of(fork()), [fork()], (fork(),), Session()]


def filled():
    """A session with two programs, counters of one of them, and counters of a program that is not kept."""
    session = Session()
    session["p"] = fork()
    session["q"] = diamond()
    session["n"] = Counters(fork(), ("way", "x"), ("runs",))
    session["m"] = Counters(loop(), ("way", "again"))
    return session


def state_of(session):
    """All that a session keeps."""
    return {name: session[name] for name in session.names()}, session.text()


def steps_in(session):
    """How many steps can be taken back; they are, behind this."""
    many = 0
    while True:
        try:
            session.undo()
        except NothingToUndo:
            return many
        many += 1


class SessionChecks(Checks):
    """Checks of what a session keeps."""

    def keeps(self, session, **things):
        """Checks all that a session keeps."""
        self.only(session.names(), sorted(things))
        self.assertEqual(len(session), len(things))
        for name, thing in things.items():
            self.assertIs(name in session, True)
            self.assertEqual(session[name], write_note(thing))
            if thing.__class__ is Counters:
                self.assertEqual((session.counters_of(name), session.program_of(name)), (thing, thing.program))
                self.assertIs(session.counters_of(name).__class__, Counters)
            else:
                self.assertEqual(session.program_of(name), thing)
                self.assertIs(session.program_of(name).__class__, Program)

    def fails_as_before(self, error, value, session, call, *given, **named):
        """Checks that a call fails, and that the session is as before it."""
        before = state_of(session)
        self.fails(error, value, call, *given, **named)
        self.assertEqual(state_of(session), before)


class KeepingTests(SessionChecks):

    def test_an_empty_session(self):
        self.keeps(Session())
        self.assertEqual(Session().text(), "")

    def test_keeping_and_replacing(self):
        session = Session()
        session["p"] = fork()
        self.keeps(session, p=fork())
        session["n"] = Counters(fork(), ("runs",))
        self.keeps(session, p=fork(), n=Counters(fork(), ("runs",)))
        session["p"] = diamond()
        self.keeps(session, p=diamond(), n=Counters(fork(), ("runs",)))
        session["n"] = Counters(diamond())
        self.keeps(session, p=diamond(), n=Counters(diamond()))
        session["n"] = Counters(diamond())
        self.keeps(session, p=diamond(), n=Counters(diamond()))

    def test_names_of_all_kinds(self):
        session = Session()
        for name in ("z", "abcdefgh", "program", "counters", "none", "a"):
            session[name] = loop()
        self.only(session.names(), ["a", "abcdefgh", "counters", "none", "program", "z"])

    def test_counters_keep_their_program(self):
        session = filled()
        session["p"] = maze()
        self.assertEqual((session.program_of("n"), session.program_of("p")), (fork(), maze()))
        session.drop("p")
        self.assertEqual(session.program_of("n"), fork())
        self.assertEqual(session["n"], "counters way:x runs")
        session.add("n", ("way", "y"))
        self.assertEqual(session.counters_of("n"), Counters(fork(), ("way", "x"), ("way", "y"), ("runs",)))

    def test_wrong_names(self):
        session = filled()
        for value in NO_NAMES:
            self.fails_as_before(BadName, value, session, session.__setitem__, value, fork())
            self.fails_as_before(BadName, value, session, session.__setitem__, value, None)
            with self.assertRaises(BadName):
                session[value] = SOUR
        self.assertEqual(steps_in(session), 4)

    def test_wrong_things(self):
        session = filled()
        for value in NO_THINGS:
            for name in ("new", "p", "n"):
                self.fails_as_before(BadArgument, value, session, session.__setitem__, name, value)
        self.assertEqual(steps_in(session), 4)

    def test_names_that_are_taken(self):
        session = filled()
        for name, thing in (("p", Counters(fork())), ("q", Counters(fork())), ("n", fork()), ("m", loop())):
            before = state_of(session)
            with self.assertRaises(NameTaken) as caught:
                session[name] = thing
            self.assertEqual(caught.exception.name, name)
            self.assertEqual(state_of(session), before)
        session.drop("n")
        session["n"] = fork()
        self.assertEqual(session.program_of("n"), fork())
        self.assertEqual(steps_in(session), 6)

    def test_unknown_names(self):
        session = filled()
        for value in [*NO_NAMES, "x", "a", "pp", "runs"]:
            self.fails_as_before(UnknownName, value, session, session.__getitem__, value)
            self.fails_as_before(UnknownName, value, session, session.program_of, value)
            self.fails_as_before(UnknownName, value, session, session.counters_of, name=value)
            self.fails_as_before(UnknownName, value, session, session.drop, name=value)
            self.assertIs(value in session, False)
            self.assertIs(value not in session, True)
            for call in (session.add, session.take):
                self.fails_as_before(UnknownName, value, session, call, value, ("runs",))
                self.fails_as_before(UnknownName, value, session, call, value, None)
                self.fails_as_before(UnknownName, value, session, call, counter=SOUR, name=value)
        self.assertEqual(steps_in(session), 4)

    def test_programs_are_no_counters(self):
        session = filled()
        for name in ("p", "q"):
            self.fails_as_before(BadName, name, session, session.counters_of, name)
            for call in (session.add, session.take):
                self.fails_as_before(BadName, name, session, call, name, ("runs",))
                self.fails_as_before(BadName, name, session, call, counter=SOUR, name=name)
        self.assertEqual(steps_in(session), 4)

    def test_by_name(self):
        session = filled()
        self.assertEqual(session.program_of(name="p"), fork())
        session.add(counter=("way", "y"), name="n")
        session.take(counter=("way", "x"), name="n")
        self.assertEqual(session.counters_of(name="n"), Counters(fork(), ("way", "y"), ("runs",)))
        session.drop(name="n")
        self.only(session.names(), ["m", "p", "q"])

    def test_it_is_not_iterated_over(self):
        with self.assertRaises(TypeError):
            list(filled())

    def test_names_belong_to_the_caller(self):
        session = filled()
        session.names().clear()
        self.only(session.names(), ["m", "n", "p", "q"])

    def test_sessions_are_apart(self):
        one, other = Session(), Session()
        one["p"] = fork()
        self.keeps(other)
        self.assertIs(one == other, False)
        self.assertIs(one == None, False)  # noqa: E711
        self.assertIs(one == one.text(), False)


class AddAndTakeTests(SessionChecks):

    def test_one_more_and_one_less(self):
        session = Session()
        session["n"] = Counters(fork())
        for counter in all_counters(fork())[::-1]:
            session.add("n", counter)
        self.assertEqual(session.counters_of("n"), Counters.everything(fork()))
        for counter in all_counters(fork())[:-1]:
            session.take("n", counter)
        self.assertEqual(session["n"], "counters runs")
        session.take("n", ("runs",))
        self.assertEqual(session["n"], "counters")
        self.assertEqual(steps_in(session), 2 * len(all_counters(fork())) + 1)

    def test_wrong_counters(self):
        session = filled()
        for value in [*NO_COUNTERS, ("way", "again")]:
            self.fails_as_before(BadCounter, value, session, session.add, "n", value)
            self.fails_as_before(BadCounter, value, session, session.take, counter=value, name="n")
        for counter in session.counters_of("n").listed():
            self.fails_as_before(BadCounter, counter, session, session.add, "n", counter)
        for counter in (Counters.everything(fork()) - session.counters_of("n")).listed():
            self.fails_as_before(BadCounter, counter, session, session.take, "n", counter)
        self.assertEqual(steps_in(session), 4)

    def test_a_set_that_was_given_stays(self):
        counters = Counters(fork(), ("runs",))
        session = Session()
        session["n"] = session["m"] = counters
        session.add("n", ("way", "x"))
        self.assertEqual(counters, Counters(fork(), ("runs",)))
        self.assertEqual(session.counters_of("m"), counters)


class UndoTests(SessionChecks):

    def test_the_last_step_first(self):
        session = filled()
        seen = [state_of(session)]
        for step in (lambda: session.add("n", ("way", "y")), lambda: session.take("n", ("way", "x")),
                     lambda: session.drop("q"), lambda: session.__setitem__("p", maze()), lambda: session.drop("n"),
                     lambda: session.__setitem__("n", split()), lambda: session.attempt([("drop", "n"), ("drop", "m")])):
            step()
            seen.append(state_of(session))
        for before in seen[-2::-1]:
            session.undo()
            self.assertEqual(state_of(session), before)
        for many in (3, 2, 1, 0):
            session.undo()
            self.assertEqual(len(session), many)
        with self.assertRaises(NothingToUndo):
            session.undo()

    def test_steps_behind_which_all_is_as_before(self):
        session = Session()
        session["p"] = fork()
        session["p"] = fork()
        session.undo()
        self.keeps(session, p=fork())
        session.attempt([("put", "q", loop()), ("drop", "q")])
        session.attempt([("put", "p", fork())])
        self.keeps(session, p=fork())
        session.undo()
        session.undo()
        self.keeps(session, p=fork())
        session.undo()
        self.keeps(session)
        self.assertRaises(NothingToUndo, session.undo)

    def test_nothing_to_undo(self):
        session = Session()
        for at in range(2):
            with self.assertRaises(NothingToUndo) as caught:
                session.undo()
            self.assertIs(caught.exception.__class__, NothingToUndo)
        session["p"] = fork()
        session.undo()
        self.assertRaises(NothingToUndo, session.undo)
        session["q"] = fork()
        self.keeps(session, q=fork())

    def test_steps_behind_an_undo(self):
        session = filled()
        session.undo()
        session["k"] = loop()
        session.undo()
        self.only(session.names(), ["n", "p", "q"])
        self.assertEqual(steps_in(session), 3)

    def test_no_step_for_what_fails(self):
        session = filled()
        for call, given in ((session.add, ("n", ("way", "x"))), (session.take, ("n", ("way", "y"))), (session.drop, ("x",)),
                            (session.__setitem__, ("p", Counters(fork()))), (session.__setitem__, ("P", fork())),
                            (session.attempt, ([("drop", "x")],)), (session.attempt, ([("drop", "p"), ("drop", "p")],)),
                            (session.attempt, (None,)), (session.program_of, ("x",)), (session.counters_of, ("p",))):
            with self.assertRaises(CountError):
                call(*given)
        self.assertEqual(steps_in(session), 4)

    def test_many_steps(self):
        session = Session()
        session["n"] = Counters(fork())
        for at in range(300):
            session.add("n", ("runs",))
            session.take("n", ("runs",))
        self.assertEqual(steps_in(session), 601)
        self.keeps(session)


class AttemptTests(SessionChecks):

    def test_each_kind_of_deed_as_one_step(self):
        session = filled()
        before = state_of(session)
        session.attempt([("put", "k", maze()), ("drop", "q"), ("add", "n", ("way", "y")), ("take", "n", ("way", "x")),
                         ("put", "l", Counters(maze())), ("add", "l", ("runs",))])
        self.keeps(session, k=maze(), p=fork(), n=Counters(fork(), ("way", "y"), ("runs",)),
                   m=Counters(loop(), ("way", "again")), l=Counters(maze(), ("runs",)))
        session.undo()
        self.assertEqual(state_of(session), before)
        self.assertEqual(steps_in(session), 4)

    def test_by_name_and_given_deeds_stay(self):
        session = Session()
        deeds = [("put", "p", fork()), ("put", "q", loop())]
        kept = list(deeds)
        session.attempt(deeds=deeds)
        self.assertEqual(deeds, kept)
        deeds.clear()
        self.keeps(session, p=fork(), q=loop())

    def test_an_empty_list(self):
        session = filled()
        before = state_of(session)
        session.attempt([])
        self.assertEqual(state_of(session), before)
        self.assertEqual(steps_in(session), 4)
        self.assertRaises(NothingToUndo, Session().undo)

    def failed(self, session, deeds, at, error, value):
        """Checks that a deed fails, from which error, and that all is as before."""
        before = state_of(session)
        with self.assertRaises(FailedDeed) as caught:
            session.attempt(deeds)
        self.assertIs(caught.exception.__class__, FailedDeed)
        self.assertEqual(caught.exception.at, at)
        cause = caught.exception.__cause__
        self.assertIs(cause.__class__, error)
        [field] = vars(cause).values()
        self.assertIs(field, value)
        self.assertEqual(state_of(session), before)

    def test_deeds_that_fail(self):
        session = filled()
        counters, program = Counters(fork()), fork()
        right = [("put", "k", maze()), ("drop", "q"), ("add", "n", ("way", "y"))]
        for deed, error, value in (
                (("put", "K", program), BadName, "K"), (("put", None, None), BadName, None),
                (("put", SOUR, program), BadName, SOUR), (("put", "new", SOUR), BadArgument, SOUR),
                (("put", "new", None), BadArgument, None), (("put", "p", counters), NameTaken, "p"),
                (("put", "n", program), NameTaken, "n"), (("drop", "none"), UnknownName, "none"),
                (("drop", SAME), UnknownName, SAME), (("add", "none", ("runs",)), UnknownName, "none"),
                (("add", "p", ("runs",)), BadName, "p"), (("add", "n", SOUR), BadCounter, SOUR),
                (("take", SOUR, SOUR), UnknownName, SOUR), (("take", "p", None), BadName, "p"),
                (("take", "n", None), BadCounter, None), (("add", "n", True), BadCounter, True)):
            self.failed(session, [deed], 0, error, value)
            self.failed(session, [*right, deed], 3, error, value)
            self.failed(session, [right[0], deed, right[1], ("drop", "none")], 1, error, value)
        self.failed(session, [*right, ("drop", "q")], 3, UnknownName, "q")
        self.failed(session, [("drop", "p"), ("put", "p", counters), ("put", "p", program)], 2, NameTaken, "p")
        runs = ("runs",)
        self.failed(session, [("take", "n", runs), ("take", "n", runs)], 1, BadCounter, runs)
        self.assertEqual(steps_in(session), 4)

    def test_values_that_are_no_deeds(self):
        session = filled()
        wrong = [*ODD_VALUES, 0, "drop", ("put",), ("put", "p"), ("put", "p", fork(), 1), ("drop",), ("drop", "p", "q"),
                 ("add", "n"), ("add", "n", ("way", "y"), 1), ("take", "n"), ["drop", "p"], ("Drop", "p"), ("undo",),
                 ("read", ""), (SAME, "p"), (SOUR, "p"), (None, "p"), (["drop"], "p"), (b"drop", "p"), ("drop p",)]
        for value in wrong:
            deeds = [("drop", "p"), value]
            self.fails_as_before(BadArgument, deeds, session, session.attempt, deeds)
            deeds = [value, ("drop", "none")]
            self.fails_as_before(BadArgument, deeds, session, session.attempt, deeds=deeds)
        self.assertEqual(steps_in(session), 4)

    def test_values_that_are_no_lists(self):
        session = filled()
        for value in [*ODD_FULL_VALUES, (), {}, 0, "drop p", (("drop", "p"),), {("drop", "p"): 1},
                      ("drop", "p")]:
            self.fails_as_before(BadArgument, value, session, session.attempt, value)
        self.assertEqual(steps_in(session), 4)


class ContextTests(SessionChecks):

    def test_without_an_error_all_stays(self):
        session = filled()
        with session as held:
            self.assertIs(held, session)
            session["k"] = loop()
            session.drop("p")
        self.only(session.names(), ["k", "m", "n", "q"])
        self.assertEqual(steps_in(session), 6)

    def test_an_error_brings_all_back(self):
        for error in (ValueError, KeyError, CountError, NothingToUndo, KeyboardInterrupt):
            session = filled()
            before = state_of(session)
            with self.assertRaises(error):
                with session:
                    session["k"] = loop()
                    session.drop("p")
                    session.add("n", ("way", "y"))
                    raise error()
            self.assertEqual(state_of(session), before)
            self.assertEqual(steps_in(session), 4)

    def test_an_error_behind_undone_steps(self):
        session = filled()
        before = state_of(session)
        with self.assertRaises(UnknownName):
            with session:
                session.undo()
                session.undo()
                session.drop("q")
                session.undo()
                session.undo()
                session["z"] = loop()
                session.drop("none")
        self.assertEqual(state_of(session), before)
        self.assertEqual(steps_in(session), 4)

    def test_the_error_is_the_very_one(self):
        session, error = filled(), ValueError("this one")
        with self.assertRaises(ValueError) as caught:
            with session:
                raise error
        self.assertIs(caught.exception, error)

    def test_an_error_that_does_not_leave_the_block(self):
        session = filled()
        with session:
            session.drop("p")
            self.assertRaises(UnknownName, session.drop, "p")
        self.only(session.names(), ["m", "n", "q"])
        self.assertEqual(steps_in(session), 5)

    def test_several_blocks(self):
        session = Session()
        with session:
            session["p"] = fork()
        with self.assertRaises(ValueError):
            with session:
                session["q"] = fork()
                raise ValueError
        with session:
            session["r"] = fork()
        self.keeps(session, p=fork(), r=fork())
        self.assertEqual(steps_in(session), 2)

    def test_what_comes_behind_the_block(self):
        session = Session()
        with session:
            session["p"] = fork()
        session["q"] = loop()
        with self.assertRaises(BadName):
            session["Q"] = loop()
        self.keeps(session, p=fork(), q=loop())


class TextTests(SessionChecks):

    def bad_at(self, at, text):
        """Checks that a text is none, and from which line on."""
        with self.assertRaises(BadText) as caught:
            Session.read(text)
        self.assertIs(caught.exception.__class__, BadText)
        self.assertEqual((caught.exception.at, caught.exception.at.__class__), (at, int))

    def test_known_texts(self):
        self.assertEqual(filled().text(), (
            "m program home home again:home:home ; counters way:again\n"
            "n program a b x:a:b y:a:b z:b:a ; counters way:x runs\n"
            "p program a b x:a:b y:a:b z:b:a\n"
            "q program a d,e a:a:b p:a:c q:b:d r:c:d s:c:e\n"))
        session = Session()
        session["n"] = Counters(loop())
        self.assertEqual(session.text(), "n program home home again:home:home ; counters\n")

    def test_the_empty_text(self):
        session = Session.read("")
        self.keeps(session)
        self.assertEqual(session.text(), "")
        self.assertRaises(NothingToUndo, session.undo)

    def reads_back(self, session):
        """Checks that what is written is read back as it was, without steps."""
        text = session.text()
        again = Session.read(text)
        self.assertIs(again.__class__, Session)
        self.assertEqual(again.text(), text)
        self.assertEqual(state_of(again), state_of(session))
        for name in session.names():
            self.assertEqual(again.program_of(name), session.program_of(name))
            if session[name].startswith("counters"):
                self.assertEqual(again.counters_of(name), session.counters_of(name))
        self.assertRaises(NothingToUndo, again.undo)
        self.assertEqual(state_of(again), state_of(session))

    def test_there_and_back(self):
        session = filled()
        self.reads_back(session)
        session["p"] = maze()
        self.reads_back(session)
        session.drop("p")
        self.reads_back(session)

    def test_many_things(self):
        session = Session()
        programs = [*all_programs(), split(), *small_programs(10), *great_programs()]
        for at, program in enumerate(programs):
            name = "abcdefghijklmnopqrstuvwxyz"[at % 26] * (at // 26 + 1)
            session[name] = program
            for number, counters in enumerate(some_sets(program, 2)):
                session[name + "xyzw"[number] + "n"] = counters
        self.reads_back(session)

    def test_a_session_that_was_read_goes_on(self):
        session = Session.read(text=filled().text())
        session.add("n", ("way", "y"))
        session.drop("p")
        session.undo()
        self.keeps(session, p=fork(), q=diamond(), n=Counters(fork(), ("way", "x"), ("way", "y"), ("runs",)),
                   m=Counters(loop(), ("way", "again")))
        with self.assertRaises(NameTaken):
            session["p"] = Counters(fork())
        session.undo()
        self.assertRaises(NothingToUndo, session.undo)

    def test_wrong_lines(self):
        right = ["m program a b x:a:b ; counters way:x\n", "n program a b x:a:b\n", "p program a b x:a:b ; counters\n"]
        Session.read("".join(right))
        wrong = [
            "\n", " \n", "x\n", "x \n", "x program\n", "x program a b\n", "x  program a b x:a:b\n", " x program a b x:a:b\n",
            "x program a b x:a:b \n", "X program a b x:a:b\n", "abcdefghi program a b x:a:b\n", "program a b x:a:b\n",
            "x program a b y:a:b x:a:b\n", "x counters\n", "x counters way:x\n", "x program a b x:a:b ;\n",
            "x program a b x:a:b ; \n", "x program a b x:a:b; counters\n", "x program a b x:a:b ;counters\n",
            "x program a b x:a:b  ; counters\n", "x program a b x:a:b ;  counters\n", "x program a b x:a:b counters\n",
            "x program a b x:a:b ; counters way:y\n", "x program a b x:a:b ; counters runs way:x\n",
            "x program a b x:a:b ; counters ; counters\n", "x counters way:x ; program a b x:a:b\n",
            "x program a b x:a:b ; counters way:x \n", "x program a b x:a:b ; counters  way:x\n", "x ; counters\n",
            "x program a b x:a:b\r\n", "x1 program a b x:a:b\n", "x\tprogram a b x:a:b\n", "x program b a x:a:b\n",
            "x: program a b x:a:b\n", "x program a b x:a:b ; counters stop:a\n", "x program a b x:a:b ; program a b x:a:b\n"]
        for line in wrong:
            self.bad_at(1, line)
            self.bad_at(1, line + right[0])
            self.bad_at(2, right[0] + line)
            self.bad_at(3, "".join(right[:2]) + line + line)
            self.bad_at(4, "".join(right) + line + "also wrong\n")

    def test_names_that_do_not_ascend(self):
        line = "{} program a b x:a:b\n"
        for names, at in ((["a", "a"], 2), (["b", "a"], 2), (["a", "c", "b"], 3), (["aa", "a"], 2), (["b", "ab"], 2),
                          (["a", "b", "b", "a"], 3), (["b", "c", "a", "b"], 3)):
            self.bad_at(at, "".join(line.format(name) for name in names))
        self.keeps(Session.read("".join(line.format(name) for name in ["a", "aa", "ab", "b"])),
                   **{name: Program.row("x") for name in ["a", "aa", "ab", "b"]})
        self.bad_at(2, "a program a b x:a:b\na program a b x:a:b ; counters\n")

    def test_no_line_feed_at_the_end(self):
        self.bad_at(1, "p program a b x:a:b")
        self.bad_at(1, "p program a b x:a:b ; counters")
        self.bad_at(2, "p program a b x:a:b\nq program a b x:a:b")
        self.bad_at(2, "p program a b x:a:b\nq")
        self.bad_at(2, "p program a b x:a:b\n ")
        self.bad_at(2, "p program a b x:a:b\n\n")
        self.bad_at(1, "P program a b x:a:b\nq program a b x:a:b")
        self.bad_at(2, filled().text().split("\n")[0] + "\n" + "x")
        for cut in range(1, len(filled().text())):
            text = filled().text()[:cut]
            if text.endswith("\n"):
                self.assertEqual(Session.read(text).text(), text)
            else:
                self.bad_at(text.count("\n") + 1, text)

    def test_values_that_are_no_texts(self):
        for value in [*[one for one in ODD_VALUES if one.__class__ is not str], 0, b"", ["p"], Session(), fork()]:
            self.bad_at(0, value)
            with self.assertRaises(BadText) as caught:
                Session.read(text=value)
            self.assertEqual(caught.exception.at, 0)
        for value in ("x", "X", "x ", "abcdefghi", "\u00e9"):
            self.bad_at(1, value)


class AnyStepsTests(SessionChecks):

    def random_deed(self, chance):
        """A deed that often fails."""
        program = chance.choice([fork(), loop(), diamond()])
        name = chance.choice(["p", "q", "n", "m", "N"])
        counter = chance.choice([*all_counters(fork()), ("way", "again"), ("way", "none")])
        things = [program, Counters(program), Counters(program, ("runs",)), None]
        return chance.choice([("put", name, chance.choice(things)), ("drop", name), ("add", name, counter),
                              ("take", name, counter)])

    def model_of(self, kept, deed):
        """What is kept behind a deed, by the words of the document, or None if it fails."""
        kind, name, *rest = deed
        thing = kept.get(name)
        if kind == "put":
            fits = rest[0] is not None and name != "N" and (thing is None or thing.__class__ is rest[0].__class__)
            return {**kept, name: rest[0]} if fits else None
        if thing is None or (kind != "drop" and thing.__class__ is Program):
            return None
        if kind == "drop":
            return {one: kept[one] for one in kept if one != name}
        listed = thing.listed()
        if kind == "add" and rest[0] in all_counters(thing.program) and rest[0] not in listed:
            return {**kept, name: Counters(thing.program, *listed, rest[0])}
        if kind == "take" and rest[0] in listed:
            return {**kept, name: Counters(thing.program, *[one for one in listed if one != rest[0]])}
        return None

    def call(self, session, deed):
        """Does a deed by its own call."""
        kind, *rest = deed
        if kind == "put":
            session[rest[0]] = rest[1]
        else:
            {"drop": session.drop, "add": session.add, "take": session.take}[kind](*rest)

    def after(self, kept, deeds):
        """What is kept behind deeds, or None if one fails."""
        for deed in deeds:
            kept = None if kept is None else self.model_of(kept, deed)
        return kept

    def test_any_steps(self):
        for seed in range(30):
            chance = random.Random(seed)
            session, past = Session(), [{}]
            for at in range(60):
                kind = chance.choice(["deed", "deed", "deed", "attempt", "undo"])
                deeds = [self.random_deed(chance) for one in range(1 if kind == "deed" else chance.randint(0, 3))]
                try:
                    if kind == "undo":
                        session.undo()
                        past.pop()
                        self.assertTrue(past)
                    else:
                        (self.call(session, deeds[0]) if kind == "deed" else session.attempt(deeds))
                        if deeds:
                            past.append(self.after(past[-1], deeds))
                        self.assertIsNotNone(past[-1])
                except CountError:
                    self.assertTrue(len(past) == 1 if kind == "undo" else self.after(past[-1], deeds) is None)
                self.keeps(session, **past[-1])
            self.assertEqual(Session.read(session.text()).text(), session.text())


if __name__ == "__main__":
    unittest.main()
