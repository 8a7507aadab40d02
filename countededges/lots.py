"""Lots: finitely many runs of one program, of which only the counts matter."""

from countededges.counters import RUNS, flow_counters, is_counter, is_table, require_counters
from countededges.edges import OUTSIDE, edges_of, ways_among
from countededges.errors import BadArgument, BadCounter, BadLot, BadNumber, NoLot, TooMany
from countededges.programs import is_integer, names_at, reached_from, stop_of

MOST_BUILT = 2000


def coming_to(program, counts, place):
    """How often a place is come to: by its ways, and the begin by each run besides."""
    by_ways = sum([counts[("way", way)] for way in program.entering(place)])
    return by_ways + (counts[RUNS] if place == program.begin else 0)


def leaving_from(program, counts, place):
    """How often a place is left: by its ways, and an exit by its stops besides."""
    by_ways = sum([counts[("way", way)] for way in program.leaving(place)])
    return by_ways + counts.get(("stop", place), 0)


def is_even(program, counts):
    """Whether for each place what comes to it is what leaves it."""
    return all([coming_to(program, counts, place) == leaving_from(program, counts, place)
                for place in program.places()])


def value_in(program, counts, counter):
    """The value of a counter of the program, where the counts are a flow."""
    return coming_to(program, counts, counter[1]) if counter[0] == "place" else counts[counter]


def ways_apart(program, counts):
    """The list of the ways that are taken and cannot be come to along ways that are taken, or without any run."""
    taken = [way for way in program.ways() if counts[("way", way)] != 0]
    if counts[RUNS] == 0:
        return taken
    reached = reached_from([program.begin], [program[way] for way in taken])
    return [way for way in taken if program[way][0] not in reached]


class Lot:
    """Some runs of one program, told by their counts; it never changes."""

    def __init__(self, program, counts):
        self.base = program
        self.tally = counts

    @staticmethod
    def of(program, *runs):
        """The lot of some runs."""
        counts = {counter: 0 for counter in flow_counters(program)}
        for run in runs:
            counts[("stop", stop_of(program, run))] += 1
            for way in run:
                counts[("way", way)] += 1
        counts[RUNS] = len(runs)
        return Lot(program, counts)

    @staticmethod
    def counted(program, counts):
        """The lot with these counts of ways, of stops, and of runs."""
        known = flow_counters(program)
        if not is_table(counts, known):
            raise BadLot(counts)
        if not is_even(program, counts):
            raise NoLot("flow")
        if any([counts[counter] < 0 for counter in known]):
            raise NoLot("below")
        if ways_apart(program, counts):
            raise NoLot("apart")
        return Lot(program, {counter: counts[counter] for counter in known})

    @property
    def program(self):
        """The program whose runs these are."""
        return self.base

    @property
    def runs(self):
        """How many runs there are."""
        return self.tally[RUNS]

    def counts(self):
        """The dict from the counters of ways, of stops, and runs to their values."""
        return {counter: self.tally[counter] for counter in self.tally}

    def __getitem__(self, at):
        if not is_counter(self.base, at):
            raise BadCounter(at)
        return value_in(self.base, self.tally, at)

    def __iter__(self):
        raise TypeError("a lot is not iterated over: take its counts() or built()")

    def __contains__(self, x):
        return x in self.base and self.tally[("way", x)] > 0

    def __eq__(self, other):
        return isinstance(other, Lot) and self.base == other.base and self.tally == other.tally

    def __add__(self, other):
        if not isinstance(other, Lot) or self.base != other.base:
            raise BadArgument(other)
        return Lot(self.base, {counter: self.tally[counter] + other.tally[counter] for counter in self.tally})

    def __iadd__(self, other):
        return self + other

    def __mul__(self, other):
        if not is_integer(other) or other < 0:
            raise BadNumber(other)
        return Lot(self.base, {counter: self.tally[counter] * other for counter in self.tally})

    def __rmul__(self, other):
        return self * other

    def __imul__(self, other):
        return self * other

    def built(self):
        """A list of runs whose lot it is."""
        taken = sum([self.tally[("way", way)] for way in self.base.ways()])
        if taken > MOST_BUILT:
            raise TooMany(taken)
        if self.runs > MOST_BUILT:
            raise TooMany(self.runs)
        return cut_into_runs(round_tour(self))


def values_of(counters, lot):
    """The dict of the values of a set of counters for a lot."""
    require_counters(counters)
    if not isinstance(lot, Lot) or lot.program != counters.program:
        raise BadArgument(lot)
    return {counter: lot[counter] for counter in counters.listed()}


def round_tour(lot):
    """A list of counters whose edges lead from outside back to it, with each counter as often as its value says."""
    edges = edges_of(lot.program)
    leading = names_at(edges)
    left = {counter: lot[counter] for counter in edges}
    # What comes to a point leaves it, so a path can end only where it began; going back along it,
    # each point that still has edges left begins one more round, and all rounds are found so.
    path = [(OUTSIDE, RUNS)]
    tour = []
    while path:
        point, counter = path[-1]
        onward = [step for step in leading[point] if left[step] > 0]
        if onward:
            left[onward[0]] -= 1
            path.append((edges[onward[0]][1], onward[0]))
        else:
            tour.append(counter)
            path.pop()
    # The last one is no step, but stands for the beginning of the path.
    return tour[:-1][::-1]


def cut_into_runs(tour):
    """The list of the runs of a tour: each begins behind a counter of runs."""
    begins = [at for at, counter in enumerate(tour) if counter == RUNS]
    ends = [*begins[1:], len(tour)]
    return [ways_among(tour[begin:end]) for begin, end in zip(begins, ends)]
