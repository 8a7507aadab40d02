"""Commands, lines of words, and their answers."""

from countededges.counters import Counters
from countededges.errors import BadArgument, BadCommand, CountError, Rings
from countededges.logs import log_twins
from countededges.notes import read_counter, read_program, write_counter
from countededges.numbers import Numbering
from countededges.ones import twins
from countededges.sessions import Session, program_in, require_name
from countededges.telling import tells, untold

FIGURES = "0123456789"
MOST_FIGURES = 41


def yes_or_no(holds):
    """The answer to whether something holds."""
    return "yes" if holds else "no"


def joined_or_none(words):
    """Words with one space between, or the word none."""
    return " ".join(words) if words else "none"


def keep_program(session, words):
    """Answers `program P NOTE`."""
    require_name(words[0])
    session[words[0]] = read_program(" ".join(["program", *words[1:]]))
    return "ok"


def keep_counters(session, words):
    """Answers `counters N P C ..`."""
    require_name(words[0])
    program = program_in(session.kept, words[1])
    chosen = [read_counter(word) for word in words[2:]]
    session[words[0]] = Counters(program, *chosen)
    return "ok"


def add_counter(session, words):
    """Answers `add N C`."""
    session.counters_of(words[0])
    session.add(words[0], read_counter(words[1]))
    return "ok"


def take_counter(session, words):
    """Answers `take N C`."""
    session.counters_of(words[0])
    session.take(words[0], read_counter(words[1]))
    return "ok"


def drop_name(session, words):
    """Answers `drop N`."""
    session.drop(words[0])
    return "ok"


def undo_step(session, words):
    """Answers `undo`."""
    session.undo()
    return "ok"


def show_note(session, words):
    """Answers `show N`."""
    return session[words[0]]


def list_names(session, words):
    """Answers `names`."""
    return joined_or_none(session.names())


def say_told(session, words):
    """Answers `told N T`."""
    counters = session.counters_of(words[0])
    return yes_or_no(tells(counters, read_counter(words[1])))


def list_untold(session, words):
    """Answers `untold N`."""
    return joined_or_none([write_counter(counter) for counter in untold(session.counters_of(words[0]))])


def say_one(session, words):
    """Answers `one N`."""
    try:
        found = twins(session.counters_of(words[0]))
    except Rings:
        return "rings"
    return yes_or_no(found is None)


def say_logs(session, words):
    """Answers `logs N`."""
    return yes_or_no(log_twins(session.counters_of(words[0])) is None)


def tell_number(session, words):
    """Answers `number P WAY ..`."""
    numbering = Numbering(program_in(session.kept, words[0]))
    return str(numbering(words[1:]))


def tell_run(session, words):
    """Answers `run P K`."""
    numbering = Numbering(program_in(session.kept, words[0]))
    return joined_or_none(numbering.run(int(words[1])))


def tell_many(session, words):
    """Answers `many P`."""
    return str(Numbering(program_in(session.kept, words[0])).many)


ACTS = {
    "program": keep_program, "counters": keep_counters, "add": add_counter, "take": take_counter, "drop": drop_name,
    "undo": undo_step, "show": show_note, "names": list_names, "told": say_told, "untold": list_untold, "one": say_one,
    "logs": say_logs, "number": tell_number, "run": tell_run, "many": tell_many,
}
# How many words stand behind the first one, at least, and whether there may be more.
LEAST = {
    "program": 3, "counters": 2, "add": 2, "take": 2, "drop": 1, "undo": 0, "show": 1, "names": 0, "told": 2,
    "untold": 1, "one": 1, "logs": 1, "number": 1, "run": 2, "many": 1,
}
MAY_HAVE_MORE = ("program", "counters", "number")


def is_figures(word):
    """Whether a word is one to 41 figures without needless zeros ahead."""
    if len(word) > MOST_FIGURES or not all([figure in FIGURES for figure in word]):
        return False
    return word == "0" or word[0] != "0"


def is_command(words):
    """Whether some words are a command."""
    if not all(words) or words[0] not in ACTS:
        return False
    more = len(words) - 1 - LEAST[words[0]]
    if more < 0 or (more > 0 and words[0] not in MAY_HAVE_MORE):
        return False
    return words[0] != "run" or is_figures(words[2])


def require_session(session):
    """Raises BadArgument for any value that is no Session."""
    if not isinstance(session, Session):
        raise BadArgument(session)


def answer(session, line):
    """The answer to a command."""
    require_session(session)
    words = line.split(" ") if isinstance(line, str) else [""]
    if not is_command(words):
        raise BadCommand(line)
    act = ACTS[words[0]]
    return act(session, words[1:])


def answer_or_refused(session, line):
    """The answer to a line, also to one that is no command or fails."""
    try:
        return answer(session, line)
    except CountError:
        return "refused"


def talk(session, lines):
    """Yields the answers to a list of lines, each line done when its answer is asked for."""
    require_session(session)
    if not isinstance(lines, list):
        raise BadArgument(lines)
    for line in list(lines):
        yield answer_or_refused(session, line)
