"""Counters of a program, and sets of them."""

from countededges.errors import BadArgument, BadCounter, BadWay
from countededges.programs import is_integer, is_word, require_program

RUNS = ("runs",)


def all_counters(program):
    """The list of all counters of a program: ways, places, stops, each ascending, then runs."""
    require_program(program)
    ways = [("way", way) for way in program.ways()]
    places = [("place", place) for place in program.places()]
    stops = [("stop", place) for place in program.exits()]
    return [*ways, *places, *stops, RUNS]


def flow_counters(program):
    """The list of the counters that have a value of their own in a flow: those of ways, of stops, and runs."""
    return [counter for counter in all_counters(program) if counter[0] != "place"]


def is_tuple_of_texts(value):
    """Whether any value is a tuple of texts."""
    return isinstance(value, tuple) and all([isinstance(part, str) for part in value])


def has_counter_form(value):
    """Whether any value has the form of a counter, of whatever program."""
    if not is_tuple_of_texts(value):
        return False
    if len(value) != 2:
        return value == RUNS
    return value[0] in ("way", "place", "stop") and is_word(value[1])


def is_known(value, known):
    """Whether any value is one of these counters."""
    # Only tuples of texts are compared: other values may compare in ways of their own.
    return is_tuple_of_texts(value) and value in known


def has_keys(value, known):
    """Whether any value is a dict from just these counters to whatever."""
    if not isinstance(value, dict) or len(value) != len(known):
        return False
    return all([is_known(counter, known) for counter in value])


def is_table_within(value, known):
    """Whether any value is a dict from some or all of these counters to integers."""
    if not isinstance(value, dict):
        return False
    return all([is_known(counter, known) and is_integer(number) for counter, number in value.items()])


def is_table(value, known):
    """Whether any value is a dict from just these counters to integers."""
    return has_keys(value, known) and is_table_within(value, known)


def is_counter(program, value):
    """Whether any value is a counter of a program."""
    return is_known(value, all_counters(program))


class Counters:
    """A set of counters of one program; it never changes."""

    def __init__(self, program, *counters):
        known = all_counters(program)
        for at, counter in enumerate(counters):
            if not is_known(counter, known) or counter in counters[:at]:
                raise BadCounter(counter)
        self.base = program
        self.chosen = [counter for counter in known if counter in counters]

    @property
    def program(self):
        """The program whose counters these are."""
        return self.base

    def listed(self):
        """The list of the counters of the set, in order."""
        return list(self.chosen)

    def __len__(self):
        return len(self.chosen)

    def __contains__(self, x):
        return is_known(x, self.chosen)

    def __add__(self, other):
        require_partner(self, other)
        more = [counter for counter in other.chosen if counter not in self.chosen]
        return Counters(self.base, *self.chosen, *more)

    def __iadd__(self, other):
        return self + other

    def __sub__(self, other):
        require_partner(self, other)
        rest = [counter for counter in self.chosen if counter not in other.chosen]
        return Counters(self.base, *rest)

    def __isub__(self, other):
        return self - other

    def __eq__(self, other):
        return isinstance(other, Counters) and self.base == other.base and self.chosen == other.chosen

    @staticmethod
    def of_ways(program, *ways):
        """The set of the counters of some ways of a program."""
        require_program(program)
        for at, way in enumerate(ways):
            if way not in program or way in ways[:at]:
                raise BadWay(way)
        counters = [("way", way) for way in ways]
        return Counters(program, *counters)

    @staticmethod
    def everything(program):
        """The set of all counters of a program."""
        counters = all_counters(program)
        return Counters(program, *counters)


def require_partner(one, other):
    """Raises BadArgument for any value that is no Counters of a program equal to that of one."""
    if not isinstance(other, Counters) or one.base != other.base:
        raise BadArgument(other)


def require_counters(counters):
    """Raises BadArgument for any value that is no Counters."""
    if not isinstance(counters, Counters):
        raise BadArgument(counters)


def require_target(counters, target):
    """Raises BadArgument for any value that is no Counters, BadCounter for any target that is none of its program."""
    require_counters(counters)
    if not is_counter(counters.program, target):
        raise BadCounter(target)
