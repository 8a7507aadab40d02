"""Sessions: programs and counters that are kept under names, and the steps by which they came there."""

from countededges.changes import with_counter, without_counter
from countededges.counters import Counters
from countededges.errors import (
    BadArgument, BadCounter, BadName, BadText, CountError, FailedDeed, NameTaken, NothingToUndo, UnknownName)
from countededges.notes import read_counters, read_program, write_note
from countededges.programs import Program, is_among, is_tuple_with, is_word


def thing_in(kept, name):
    """What is kept under a name."""
    if not is_among(name, kept):
        raise UnknownName(name)
    return kept[name]


def program_in(kept, name):
    """The program that is kept under a name itself."""
    thing = thing_in(kept, name)
    if not isinstance(thing, Program):
        raise BadName(name)
    return thing


def counters_in(kept, name):
    """The counters that are kept under a name."""
    thing = thing_in(kept, name)
    if not isinstance(thing, Counters):
        raise BadName(name)
    return thing


def require_name(name):
    """Raises BadName for any value under which nothing can be kept."""
    if not is_word(name):
        raise BadName(name)


# Each deed makes a new dict of all that is kept, so that what was kept ahead of it can be had back as it was.

def put_in(kept, name, thing):
    """All that is kept, with a thing under a name."""
    require_name(name)
    if not isinstance(thing, (Program, Counters)):
        raise BadArgument(thing)
    if name in kept and isinstance(kept[name], Program) != isinstance(thing, Program):
        raise NameTaken(name)
    return {**kept, name: thing}


def dropped_from(kept, name):
    """All that is kept, but for what has a name."""
    thing_in(kept, name)
    return {other: kept[other] for other in kept if other != name}


def added_in(kept, name, counter):
    """All that is kept, with one more counter in the counters of a name."""
    counters = with_counter(counters_in(kept, name), counter)
    if counters is None:
        raise BadCounter(counter)
    return {**kept, name: counters}


def taken_in(kept, name, counter):
    """All that is kept, with one counter less in the counters of a name."""
    counters = without_counter(counters_in(kept, name), counter)
    if counters is None:
        raise BadCounter(counter)
    return {**kept, name: counters}


DEEDS = {"put": put_in, "drop": dropped_from, "add": added_in, "take": taken_in}
LENGTHS = {"put": 3, "drop": 2, "add": 3, "take": 3}


def done_in(kept, deed):
    """All that is kept behind a deed."""
    act = DEEDS[deed[0]]
    rest = deed[1:]
    return act(kept, *rest)


def line_of(name, thing):
    """The line of a session's text for what is kept under a name."""
    if isinstance(thing, Counters):
        return f"{name} {write_note(thing.program)} ; {write_note(thing)}\n"
    return f"{name} {write_note(thing)}\n"


def thing_of(note):
    """What is written behind the name in a line of a session's text."""
    first, sign, second = note.partition(" ; ")
    program = read_program(first)
    return read_counters(program, second) if sign else program


def things_of(text):
    """The dict from the names to the things of a session's text."""
    lines = text.split("\n")
    kept = {}
    before = ""
    for number, line in enumerate(lines[:-1], start=1):
        name, gap, note = line.partition(" ")
        if not is_word(name) or name <= before:
            raise BadText(number)
        try:
            kept[name] = thing_of(note)
        except BadText:
            raise BadText(number) from None
        before = name
    # What stands behind the last line feed is a line without its own.
    if lines[-1] != "":
        raise BadText(len(lines))
    return kept


class Session:
    """Programs and counters that are kept under names, with steps that can be taken back."""

    def __init__(self):
        self.kept = {}
        self.past = []
        self.kept_at_entry = self.kept
        self.past_at_entry = self.past

    def move_on(self, kept):
        """Makes one step to what is kept from now on."""
        # Neither the dict nor the list is changed in its place: others may still be asked for by a step or a context.
        self.past = [*self.past, self.kept]
        self.kept = kept

    def __setitem__(self, at, worth):
        self.move_on(put_in(self.kept, at, worth))

    def __getitem__(self, at):
        return write_note(thing_in(self.kept, at))

    def __iter__(self):
        raise TypeError("a session is not iterated over: take its names()")

    def __contains__(self, x):
        return is_among(x, self.kept)

    def __len__(self):
        return len(self.kept)

    def __enter__(self):
        self.kept_at_entry = self.kept
        self.past_at_entry = self.past
        return self

    def __exit__(self, kind, value, trace):
        if kind is not None:
            self.kept = self.kept_at_entry
            self.past = self.past_at_entry

    def program_of(self, name):
        """The program of a name, for counters theirs."""
        thing = thing_in(self.kept, name)
        return thing.program if isinstance(thing, Counters) else thing

    def counters_of(self, name):
        """The counters of a name."""
        return counters_in(self.kept, name)

    def names(self):
        """The list of all names, ascending."""
        return sorted(self.kept)

    def add(self, name, counter):
        """Keeps the counters of a name with one more."""
        self.move_on(added_in(self.kept, name, counter))

    def take(self, name, counter):
        """Keeps the counters of a name with one less."""
        self.move_on(taken_in(self.kept, name, counter))

    def drop(self, name):
        """Keeps no longer what has a name."""
        self.move_on(dropped_from(self.kept, name))

    def undo(self):
        """Takes the last step back."""
        if not self.past:
            raise NothingToUndo()
        self.kept = self.past[-1]
        self.past = self.past[:-1]

    def attempt(self, deeds):
        """Does all deeds of a list as one step, or none of them."""
        if not isinstance(deeds, list) or not all([is_tuple_with(deed, dict(LENGTHS)) for deed in deeds]):
            raise BadArgument(deeds)
        kept = self.kept
        for at, deed in enumerate(deeds):
            try:
                kept = done_in(kept, deed)
            except CountError as error:
                raise FailedDeed(at) from error
        if deeds:
            self.move_on(kept)

    def text(self):
        """The text of all that is kept, a line for each name."""
        return "".join([line_of(name, self.kept[name]) for name in self.names()])

    @staticmethod
    def read(text):
        """The session with this text, without a step to be taken back."""
        if not isinstance(text, str):
            raise BadText(0)
        session = Session()
        session.kept = things_of(text)
        return session
