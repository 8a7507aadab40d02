"""Notes: programs and counters as texts of words, and read back."""

from countededges.counters import Counters, has_counter_form
from countededges.errors import BadArgument, BadCounter, BadProgram, BadText
from countededges.programs import Program, require_program


def write_counter(counter):
    """The word of a counter."""
    if not has_counter_form(counter):
        raise BadCounter(counter)
    return ":".join(counter)


def read_counter(word):
    """The counter of a word."""
    if not isinstance(word, str):
        raise BadText(word)
    counter = tuple(word.split(":"))
    if not has_counter_form(counter):
        raise BadText(word)
    return counter


def note_of_program(program):
    """The note of a program."""
    links = [f"{way}:{program[way][0]}:{program[way][1]}" for way in program.ways()]
    exits = ",".join(program.exits())
    return " ".join(["program", program.begin, exits, *links])


def note_of_counters(counters):
    """The note of a set of counters."""
    return " ".join(["counters", *[write_counter(counter) for counter in counters.listed()]])


def write_note(thing):
    """The note of a Program or of Counters."""
    if isinstance(thing, Program):
        return note_of_program(thing)
    if isinstance(thing, Counters):
        return note_of_counters(thing)
    raise BadArgument(thing)


def links_of(words):
    """The dict of ways of some words way:from:to; a word of another form becomes a way that no program has."""
    parts = [word.split(":") for word in words]
    return {part[0]: tuple(part[1:]) for part in parts}


def read_program(note):
    """The program of a note."""
    words = note.split(" ") if isinstance(note, str) else []
    if len(words) < 3:
        raise BadText(note)
    try:
        program = Program(links_of(words[3:]), words[1], words[2].split(","))
    except BadProgram:
        raise BadText(note) from None
    # Whatever is written in another order or form makes another note.
    if note_of_program(program) != note:
        raise BadText(note)
    return program


def read_counters(program, note):
    """The counters of a note, of a program."""
    require_program(program)
    if not isinstance(note, str):
        raise BadText(note)
    try:
        chosen = [read_counter(word) for word in note.split(" ")[1:]]
        counters = Counters(program, *chosen)
    except (BadText, BadCounter):
        raise BadText(note) from None
    if note_of_counters(counters) != note:
        raise BadText(note)
    return counters
