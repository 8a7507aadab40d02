"""Tests of what the document promises over the whole program (point 2)."""

import copy
import types
import unittest

from countededges import (
    changes, checker, cheapest, console, counters, errors, logs, lots, notes, ones, programs, telling, values)
from countededges.counters import Counters, all_counters
from countededges.lots import Lot
from countededges.numbers import Numbering
from countededges.programs import Program
from countededges.sessions import Session
from tests.samples import Checks, fork, maze, split
from tests.test_form import INTERFACE


def two():
    """A program of four runs."""
    return Program({"p": ("a", "b"), "q": ("a", "b"), "r": ("b", "c"), "s": ("b", "c")}, "a", ["c"])


def some():
    """A set of counters that tells some but not all."""
    return Counters(fork(), ("way", "x"), ("runs",))


def all_telling():
    """A set of counters that tells all."""
    return Counters(fork(), ("way", "x"), ("way", "y"), ("runs",))


def few():
    """Counters of a program without rings that do not tell one run."""
    return Counters(two(), ("way", "p"))


def costs():
    """Costs of all counters."""
    return {counter: 1 + at % 3 for at, counter in enumerate(all_counters(fork()))}


def three():
    """Costs of three counters."""
    return {("way", "x"): 1, ("way", "y"): 1, ("place", "b"): 2}


def filled():
    """A session that keeps a program and counters."""
    session = Session()
    session["p"] = two()
    session["n"] = some()
    return session


def paper():
    """A right paper of the set of some counters."""
    return checker.told_paper(some(), ("stop", "b"))


def counts():
    """The counts of a lot."""
    return {("way", "x"): 1, ("way", "y"): 1, ("way", "z"): 1, ("stop", "b"): 1, ("runs",): 1}


def lot_values():
    """Values of the set that tells all."""
    return {("way", "x"): 1, ("way", "y"): 1, ("runs",): 1}


def levels():
    """Levels of the program of four runs."""
    return {"a": 0, "b": 5, "c": 0}


def made_changes():
    """Changes that can be made, and reach what only the new program has."""
    return [("exit", "a"), ("add", ("stop", "a")), ("add", ("way", "z"))]


def deeds():
    """Deeds that can be done."""
    return [("put", "q", fork()), ("add", "n", ("way", "y"))]


# Each call of the interface, and its arguments by the names of its parameters, made anew for each call.
CALLS = {
    "programs.is_word": (programs.is_word, lambda: {"value": "x"}),
    "programs.Program": (Program, lambda: {"ways": {"x": ("a", "b")}, "begin": "a", "exits": ["b"]}),
    "programs.is_run": (programs.is_run, lambda: {"program": fork(), "value": ["x"]}),
    "programs.stop_of": (programs.stop_of, lambda: {"program": fork(), "run": ["x"]}),
    "programs.runs_to": (programs.runs_to, lambda: {"program": fork(), "most": 3}),
    "programs.leaving": (lambda **named: maze().leaving(**named), lambda: {"place": "in"}),
    "programs.entering": (lambda **named: maze().entering(**named), lambda: {"place": "in"}),
    "programs.ways": (lambda: maze().ways(), dict),
    "programs.places": (lambda: maze().places(), dict),
    "programs.exits": (lambda: maze().exits(), dict),
    "programs.find_ring": (lambda: maze().find_ring(), dict),
    "counters.all_counters": (counters.all_counters, lambda: {"program": fork()}),
    "counters.is_counter": (counters.is_counter, lambda: {"program": fork(), "value": ("runs",)}),
    "counters.Counters": (Counters, lambda: {"program": fork()}),
    "counters.of_ways": (Counters.of_ways, lambda: {"program": fork()}),
    "counters.everything": (Counters.everything, lambda: {"program": fork()}),
    "counters.listed": (lambda: some().listed(), dict),
    "lots.of": (Lot.of, lambda: {"program": fork()}),
    "lots.counted": (Lot.counted, lambda: {"program": fork(), "counts": counts()}),
    "lots.counts": (lambda: Lot.of(fork(), ["x", "z", "y"]).counts(), dict),
    "lots.built": (lambda: Lot.of(fork(), ["x", "z", "y"], ["y"]).built(), dict),
    "lots.values_of": (lots.values_of, lambda: {"counters": some(), "lot": Lot.of(fork(), ["x"])}),
    "telling.sum_for": (telling.sum_for, lambda: {"counters": some(), "target": ("stop", "b")}),
    "telling.tells": (telling.tells, lambda: {"counters": some(), "target": ("stop", "b")}),
    "telling.untold": (telling.untold, lambda: {"counters": some()}),
    "telling.flow_for": (telling.flow_for, lambda: {"counters": some(), "target": ("way", "y")}),
    "telling.lots_for": (telling.lots_for, lambda: {"counters": some(), "target": ("way", "y")}),
    "telling.Sum": (telling.sum_for(all_telling(), ("way", "z")), lambda: {"values": lot_values()}),
    "telling.shares": (lambda: telling.sum_for(all_telling(), ("way", "z")).shares(), dict),
    "telling.levels": (lambda: telling.sum_for(all_telling(), ("way", "z")).levels(), dict),
    "ones.twins": (ones.twins, lambda: {"counters": few()}),
    "ones.twins_for": (ones.twins_for, lambda: {"counters": few(), "target": ("way", "r")}),
    "logs.log_of": (logs.log_of, lambda: {"counters": some(), "run": ["x", "z", "y"]}),
    "logs.log_twins": (logs.log_twins, lambda: {"counters": some()}),
    "cheapest.cost_of": (cheapest.cost_of, lambda: {"counters": some(), "costs": costs()}),
    "cheapest.cheapest": (cheapest.cheapest, lambda: {"program": fork(), "costs": costs()}),
    "cheapest.wished": (cheapest.wished, lambda: {"program": fork(), "costs": three()}),
    "numbers.Numbering": (Numbering, lambda: {"program": two()}),
    "numbers.call": (Numbering(two()), lambda: {"run": ["p", "s"]}),
    "numbers.run": (Numbering(two()).run, lambda: {"number": 3}),
    "numbers.all_runs": (Numbering(split()).all_runs, dict),
    "numbers.moved": (Numbering(two()).moved, lambda: {"levels": levels()}),
    "numbers.freed": (Numbering(two()).freed, dict),
    "numbers.quiet": (Numbering(two()).quiet, lambda: {"costs": {"p": 1, "q": 3, "r": 2, "s": 0}}),
    "numbers.free": (Numbering(two()).free, dict),
    "values.judged": (values.judged, lambda: {"counters": all_telling(), "values": lot_values()}),
    "checker.fits": (checker.fits, lambda: {"paper": paper(), "counters": some()}),
    "checker.is_flow": (checker.is_flow, lambda: {"program": fork(), "value": counts()}),
    "checker.told_paper": (checker.told_paper, lambda: {"counters": some(), "target": ("way", "y")}),
    "checker.log_paper": (checker.log_paper, lambda: {"counters": some()}),
    "checker.cheapest_paper": (checker.cheapest_paper, lambda: {"program": fork(), "costs": costs()}),
    "changes.changed_by": (changes.changed_by, lambda: {"counters": some(), "changes": made_changes()}),
    "changes.least_changes": (changes.least_changes, lambda: {"counters": some(), "changes": made_changes()}),
    "notes.write_note": (notes.write_note, lambda: {"thing": some()}),
    "notes.read_program": (notes.read_program, lambda: {"note": "program a b x:a:b"}),
    "notes.read_counters": (notes.read_counters, lambda: {"program": fork(), "note": "counters way:x"}),
    "notes.write_counter": (notes.write_counter, lambda: {"counter": ("way", "x")}),
    "notes.read_counter": (notes.read_counter, lambda: {"word": "way:x"}),
    "sessions.Session": (Session, dict),
    "sessions.program_of": (lambda **named: filled().program_of(**named), lambda: {"name": "n"}),
    "sessions.counters_of": (lambda **named: filled().counters_of(**named), lambda: {"name": "n"}),
    "sessions.names": (lambda: filled().names(), dict),
    "sessions.add": (lambda **named: behind("add", named), lambda: {"name": "n", "counter": ("way", "y")}),
    "sessions.take": (lambda **named: behind("take", named), lambda: {"name": "n", "counter": ("way", "x")}),
    "sessions.drop": (lambda **named: behind("drop", named), lambda: {"name": "n"}),
    "sessions.undo": (lambda: behind("undo", {}), dict),
    "sessions.attempt": (lambda **named: behind("attempt", named), lambda: {"deeds": deeds()}),
    "sessions.text": (lambda: filled().text(), dict),
    "sessions.read": (Session.read, lambda: {"text": filled().text()}),
    "console.answer": (console.answer, lambda: {"session": filled(), "line": "untold n"}),
    "console.talk": (console.talk, lambda: {"session": filled(), "lines": ["drop n", "names", "x"]}),
}

# The same with further values, which come by their places.
STARRED = {
    "programs.row": (Program.row, ["x", "y"]),
    "counters.Counters": (Counters, [fork(), ("way", "x"), ("runs",)]),
    "counters.of_ways": (Counters.of_ways, [fork(), "x", "z"]),
    "lots.of": (Lot.of, [fork(), ["x"], ["x", "z", "y"]]),
    "cheapest.wished": (cheapest.wished, [fork(), three(), ("place", "b")]),
    "numbers.freed": (Numbering(two()).freed, ["p", "r"]),
    "changes.least_changes": (changes.least_changes, [some(), made_changes(), ("stop", "a")]),
}


def behind(name, named):
    """The text of a session behind a call of one of its methods."""
    session = filled()
    returned = getattr(session, name)(**named)
    return (returned, session.text())


def seen(thing):
    """What can be seen of a value: all that a caller can ask it for."""
    if isinstance(thing, types.GeneratorType):
        return ("generator", [seen(one) for one in thing])
    if isinstance(thing, (list, tuple)):
        return (thing.__class__, [seen(one) for one in thing])
    if isinstance(thing, dict):
        return sorted((key, seen(value)) for key, value in thing.items())
    if isinstance(thing, telling.Sum):
        return (thing.target, thing.divisor, seen(thing.shares()), seen(thing.levels()))
    if isinstance(thing, Lot):
        return (notes.write_note(thing.program), seen(thing.counts()))
    if isinstance(thing, Numbering):
        return (notes.write_note(thing.program), thing.many, [thing[way] for way in thing.program.ways()])
    if isinstance(thing, Counters):
        return (notes.write_note(thing.program), notes.write_note(thing))
    if isinstance(thing, Program):
        return notes.write_note(thing)
    return thing.text() if isinstance(thing, Session) else thing


def spoiled(thing):
    """Changes all lists and dicts in a value."""
    if isinstance(thing, types.GeneratorType):
        for one in thing:
            spoiled(one)
    elif isinstance(thing, (list, tuple, dict)):
        for one in list(thing.values() if isinstance(thing, dict) else thing):
            spoiled(one)
        if isinstance(thing, list):
            thing.append("spoiled")
            thing.reverse()
        elif isinstance(thing, dict):
            thing.clear()
            thing["spoiled"] = 1


class WholeTests(Checks):

    def test_each_call_of_the_interface_is_here(self):
        for file, functions in INTERFACE.items():
            for name in functions:
                last = name.split(".")[-1]
                told = {"__init__": name.split(".")[0], "__call__": "Sum" if name.startswith("Sum") else "call"}
                self.assertIn(f"{file}.{told.get(last, last)}", [*CALLS, *STARRED])

    def test_by_the_names_of_the_parameters_in_any_order(self):
        for label, (call, named) in CALLS.items():
            expected = seen(call(**named()))
            self.assertEqual(seen(call(**dict(reversed(named().items())))), expected, label)
            if getattr(call, "__name__", "") != "<lambda>":
                self.assertEqual(seen(call(*named().values())), expected, label)

    def test_the_same_call_tells_the_same_again(self):
        for label, (call, named) in CALLS.items():
            given = named()
            if not any(isinstance(one, Session) for one in given.values()):
                self.assertEqual(seen(call(**given)), seen(call(**given)), label)
        for label, (call, given) in STARRED.items():
            self.assertEqual(seen(call(*given)), seen(call(*given)), label)

    def test_what_was_given_stays(self):
        for label, (call, named) in CALLS.items():
            given = named()
            before = copy.deepcopy(given)
            kept = [list(one) for one in given.values() if isinstance(one, (list, dict))]
            seen(call(**given))
            for name in given:
                if not isinstance(given[name], Session):
                    self.assertEqual(seen(given[name]), seen(before[name]), label)
            self.assertEqual([list(one) for one in given.values() if isinstance(one, (list, dict))], kept, label)
        for label, (call, given) in STARRED.items():
            before = [seen(one) for one in given]
            seen(call(*given))
            self.assertEqual([seen(one) for one in given], before, label)

    def test_what_was_given_is_not_kept(self):
        for label, (call, named) in CALLS.items():
            given = named()
            expected = seen(call(**named()))
            told = call(**given)
            if not isinstance(told, types.GeneratorType):
                for one in given.values():
                    spoiled(one)
                self.assertEqual(seen(told), expected, label)
        for label, (call, given) in STARRED.items():
            mine = copy.deepcopy(given)
            told = call(*mine)
            for one in mine:
                spoiled(one)
            self.assertEqual(seen(told), seen(call(*given)), label)

    def test_what_was_returned_belongs_to_the_caller(self):
        for label, (call, named) in CALLS.items():
            given = named()
            before = [seen(one) for one in given.values()]
            expected = seen(call(**named()))
            spoiled(call(**given))
            if not any(isinstance(one, Session) for one in given.values()):
                self.assertEqual([seen(one) for one in given.values()], before, label)
                self.assertEqual(seen(call(**given)), expected, label)
        for label, (call, given) in STARRED.items():
            expected = seen(call(*given))
            spoiled(call(*given))
            self.assertEqual(seen(call(*given)), expected, label)

    def test_the_order_of_the_keys_means_nothing(self):
        for label, (call, named) in CALLS.items():
            given = {name: dict(reversed(one.items())) if isinstance(one, dict) else one for name, one in named().items()}
            self.assertEqual(seen(call(**given)), seen(call(**named())), label)

    def test_generators_look_when_their_first_value_is_asked_for(self):
        for told, error, value in (
                (programs.runs_to(None, 3), errors.BadArgument, None), (programs.runs_to(fork(), 9), errors.BadNumber, 9),
                (console.talk(None, []), errors.BadArgument, None), (console.talk(Session(), 5), errors.BadArgument, 5)):
            self.assertIsInstance(told, types.GeneratorType)
            self.fails(error, value, next, told)

    def test_objects_of_unlike_classes_are_unlike(self):
        things = [fork(), some(), Lot.of(fork()), Numbering(two()), Session(), telling.sum_for(some(), ("runs",))]
        for one in things:
            for other in things:
                self.assertIs(one == other, one is other)
                self.assertIs(one != other, one is not other)

    def test_operators_leave_their_objects_as_they_were(self):
        one, other = some(), Counters(fork(), ("way", "y"))
        lot = Lot.of(fork(), ["x"])
        before = seen([one, other, lot])
        results = [one + other, one - other, lot + lot, lot * 3, 3 * lot]
        self.assertEqual(seen([one, other, lot]), before)
        self.assertEqual([result.__class__ for result in results], [Counters, Counters, Lot, Lot, Lot])

    def test_great_numbers_are_exact(self):
        great = 10**40
        lot = Lot.of(fork(), ["x", "z", "y"], ["y"]) * great
        told = values.judged(all_telling(), lots.values_of(all_telling(), lot))
        self.assertEqual(told, ("lot", lot))
        self.assertEqual(told[1][("place", "a")], 3 * great)
        dear = {counter: great - at for at, counter in enumerate(all_counters(fork()))}
        chosen = cheapest.cheapest(fork(), dear)
        self.assertTrue(checker.fits(checker.cheapest_paper(fork(), dear), chosen))
        moved = Numbering(two()).moved({"a": 0, "b": great, "c": 0}).moved({"a": 0, "b": 1 - great, "c": 0})
        self.assertEqual([moved[way] for way in two().ways()], [1, 3, -1, 0])


if __name__ == "__main__":
    unittest.main()
