"""Numbers on the ways of a program without rings, whose sums tell its runs apart."""

from countededges.errors import BadCosts, BadLevels, BadNumber, BadRun, BadWay
from countededges.programs import is_among, is_integer, is_run, is_table_of, require_no_rings, require_program


def choices_at(program, ahead, place):
    """How many ways to go on there are at a place, if they are known ahead of it: stopping, and each way's."""
    stopping = 1 if place in program.exits() else 0
    return stopping + sum([ahead[program[way][1]] for way in program.leaving(place)])


def ways_onward(program):
    """For each place how many ways to go on from it there are, to any exit; for programs without rings."""
    ahead = {}
    places = program.places()
    while len(ahead) < len(places):
        for place in places:
            goals = [program[way][1] for way in program.leaving(place)]
            if place not in ahead and all([goal in ahead for goal in goals]):
                ahead[place] = choices_at(program, ahead, place)
    return ahead


def steps_of(program, ahead):
    """For each way the sum of what is ahead of it at its place."""
    steps = {}
    for place in program.places():
        total = 1 if place in program.exits() else 0
        for way in program.leaving(place):
            steps[way] = total
            total += ahead[program[way][1]]
    return steps


def steps_moved(program, steps, levels):
    """The steps of all ways, each greater by the level to which it leads and less by that from which it leads."""
    return {way: steps[way] + levels[program[way][1]] - levels[program[way][0]] for way in steps}


def pinned_places(program):
    """The list of the places whose level is 0: the begin and the exits."""
    return [program.begin, *program.exits()]


def spread(program, steps, ways, levels):
    """The levels with those of all places to which some ways lead from or back from places that have one already."""
    found = {place: levels[place] for place in levels}
    many = -1
    while len(found) > many:
        many = len(found)
        for way in ways:
            source, goal = program[way]
            if source in found and goal not in found:
                found[goal] = found[source] - steps[way]
            elif goal in found and source not in found:
                found[source] = found[goal] + steps[way]
    return found


def levels_freeing(program, steps, ways):
    """Levels by which each of some ways is free, or None if there are none."""
    levels = spread(program, steps, ways, {place: 0 for place in pinned_places(program)})
    for place in program.places():
        # Places that no way joins to those before can have any level.
        if place not in levels:
            levels = spread(program, steps, ways, {**levels, place: 0})
    moved = steps_moved(program, steps, levels)
    return levels if all([moved[way] == 0 for way in ways]) else None


class Numbering:
    """Numbers on the ways of a program without rings; it never changes."""

    def __init__(self, program):
        require_program(program)
        require_no_rings(program)
        self.base = program
        self.ahead = ways_onward(program)
        self.first_steps = steps_of(program, self.ahead)
        self.steps = self.first_steps

    @property
    def program(self):
        """The program whose ways these are."""
        return self.base

    @property
    def many(self):
        """How many runs there are."""
        return self.ahead[self.base.begin]

    def __getitem__(self, at):
        if not is_among(at, self.steps):
            raise BadWay(at)
        return self.steps[at]

    def __iter__(self):
        raise TypeError("a numbering is not iterated over: take its all_runs()")

    def __eq__(self, other):
        return isinstance(other, Numbering) and self.base == other.base and self.steps == other.steps

    def __call__(self, run):
        if not is_run(self.base, run):
            raise BadRun(run)
        return sum([self.steps[way] for way in run])

    def run(self, number):
        """The run with a number."""
        if not is_integer(number) or not 0 <= number < self.many:
            raise BadNumber(number)
        # The numbers of runs stay when steps are moved, and only the first steps grow from way to way at each place.
        left = number
        place = self.base.begin
        found = []
        while left > 0 or place not in self.base.exits():
            fitting = [way for way in self.base.leaving(place) if self.first_steps[way] <= left]
            found.append(fitting[-1])
            left -= self.first_steps[fitting[-1]]
            place = self.base[fitting[-1]][1]
        return found

    def all_runs(self):
        """Yields all runs in the order of their numbers."""
        waiting = [(self.base.begin, [])]
        while waiting:
            place, path = waiting.pop()
            for way in self.base.leaving(place)[::-1]:
                waiting.append((self.base[way][1], [*path, way]))
            if place in self.base.exits():
                yield path

    def moved(self, levels):
        """The numbering moved by levels."""
        if not is_table_of(levels, self.base.places()):
            raise BadLevels(levels)
        if any([levels[place] != 0 for place in pinned_places(self.base)]):
            raise BadLevels(levels)
        other = Numbering(self.base)
        other.steps = steps_moved(self.base, self.steps, levels)
        return other

    def freed(self, *ways):
        """The numbering moved so that each of some ways is free, or None if they cannot be freed."""
        for way in ways:
            if way not in self.base:
                raise BadWay(way)
        levels = levels_freeing(self.base, self.steps, ways)
        return None if levels is None else self.moved(levels)

    def quiet(self, costs):
        """The numbering moved so that dear ways are free, the dearest first, like ones ascending."""
        ways = self.base.ways()
        if not is_table_of(costs, ways) or any([costs[way] < 0 for way in ways]):
            raise BadCosts(costs)
        taken = []
        for way in sorted(ways, key=lambda one: -costs[one]):
            if levels_freeing(self.base, self.steps, [*taken, way]) is not None:
                taken.append(way)
        return self.freed(*taken)

    def free(self):
        """The list of the free ways, ascending."""
        return [way for way in self.base.ways() if self.steps[way] == 0]
