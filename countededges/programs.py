"""Programs: places with ways between them, and the runs along these ways."""

from countededges.errors import BadArgument, BadNumber, BadPlace, BadProgram, BadRun, BadWay, Rings

LETTERS = "abcdefghijklmnopqrstuvwxyz"
MOST_LETTERS = 8
MOST_WAYS = 40
MOST_OF_RUN = 8


def is_integer(value):
    """Whether any value is an integer; True and False are none."""
    return isinstance(value, int) and not isinstance(value, bool)


def is_word(value):
    """Whether any value is a word: a text of one to eight small letters from a to z."""
    if not isinstance(value, str) or not 1 <= len(value) <= MOST_LETTERS:
        return False
    return all([letter in LETTERS for letter in value])


def is_among(value, words):
    """Whether any value is one of these words."""
    # Only texts are compared: other values may be no keys, or compare in ways of their own.
    return isinstance(value, str) and value in words


def is_tuple_with(value, lengths):
    """Whether any value is a tuple that begins with a word of a dict, and is as long as the dict says."""
    if not isinstance(value, tuple) or not value or not is_among(value[0], lengths):
        return False
    return len(value) == lengths[value[0]]


def is_table_of(value, words):
    """Whether any value is a dict from just these words to integers."""
    if not isinstance(value, dict) or len(value) != len(words):
        return False
    return all([is_among(word, words) and is_integer(number) for word, number in value.items()])


def is_link(value):
    """Whether any value is a tuple of two words."""
    return isinstance(value, tuple) and len(value) == 2 and is_word(value[0]) and is_word(value[1])


def are_ways(value):
    """Whether any value is a dict from one to 40 words to tuples of two words."""
    if not isinstance(value, dict) or not 1 <= len(value) <= MOST_WAYS:
        return False
    return all([is_word(way) and is_link(link) for way, link in value.items()])


def are_exits(value, places):
    """Whether any value is a list of some of the places, not empty, each once."""
    if not isinstance(value, list) or not value:
        return False
    return all([is_among(place, places) for place in value]) and len(set(value)) == len(value)


def reached_from(places, pairs):
    """The list of all places that can be come to from some places along pairs (from, to)."""
    found = list(places)
    looked_at = 0
    while looked_at < len(found):
        for source, goal in pairs:
            if source == found[looked_at] and goal not in found:
                found.append(goal)
        looked_at += 1
    return found


def names_at(links):
    """For each place from which links (from, to) lead the list of their names."""
    leading = {}
    for name in links:
        leading.setdefault(links[name][0], []).append(name)
    return leading


def paths_from(links, start):
    """For each place that can be come to from the start a shortest list of links, empty for the start itself."""
    leading = names_at(links)
    paths = {start: []}
    waiting = [start]
    while waiting:
        place = waiting.pop(0)
        for name in leading.get(place, []):
            goal = links[name][1]
            if goal not in paths:
                paths[goal] = [*paths[place], name]
                waiting.append(goal)
    return paths


class Program:
    """Places with ways between them, a begin and exits; it never changes."""

    def __init__(self, ways, begin, exits):
        if not are_ways(ways):
            raise BadProgram("ways")
        # Kept ascending, so that each list and search over the ways has the same order.
        links = {way: (ways[way][0], ways[way][1]) for way in sorted(ways)}
        places = sorted({place for way in links for place in links[way]})
        if not is_among(begin, places):
            raise BadProgram("begin")
        if not are_exits(exits, places):
            raise BadProgram("exits")
        if len(reached_from([begin], [links[way] for way in links])) < len(places):
            raise BadProgram("reach")
        if len(reached_from(exits, [(links[way][1], links[way][0]) for way in links])) < len(places):
            raise BadProgram("leave")
        self.links = links
        self.spots = places
        self.origin = begin
        self.finals = sorted(exits)

    @property
    def begin(self):
        """The place where each run begins."""
        return self.origin

    def ways(self):
        """The list of all ways, ascending."""
        return list(self.links)

    def places(self):
        """The list of all places, ascending."""
        return list(self.spots)

    def exits(self):
        """The list of all exits, ascending."""
        return list(self.finals)

    def __getitem__(self, at):
        if not is_among(at, self.links):
            raise BadWay(at)
        return self.links[at]

    def __iter__(self):
        raise TypeError("a program is not iterated over: take its ways() or places()")

    def __contains__(self, x):
        return is_among(x, self.links)

    def __len__(self):
        return len(self.links)

    def __eq__(self, other):
        return (isinstance(other, Program) and self.links == other.links
                and self.origin == other.origin and self.finals == other.finals)

    def leaving(self, place):
        """The list of the ways from a place, ascending."""
        if not is_among(place, self.spots):
            raise BadPlace(place)
        return [way for way in self.links if self.links[way][0] == place]

    def entering(self, place):
        """The list of the ways to a place, ascending."""
        if not is_among(place, self.spots):
            raise BadPlace(place)
        return [way for way in self.links if self.links[way][1] == place]

    def find_ring(self):
        """A list of ways that leads from a place back to it, or None if there is none."""
        for way in self.links:
            source, goal = self.links[way]
            paths = paths_from(self.links, goal)
            if source in paths:
                return [way, *paths[source]]
        return None

    @staticmethod
    def row(*ways):
        """The program whose ways follow one another between the places a, b and so on."""
        links = {}
        for way in ways:
            # One place more than ways is needed, so the last letter has no way behind it.
            if not is_word(way) or way in links or len(links) + 1 == len(LETTERS):
                raise BadWay(way)
            links[way] = (LETTERS[len(links)], LETTERS[len(links) + 1])
        return Program(links, LETTERS[0], [LETTERS[len(links)]])


def require_program(program):
    """Raises BadArgument for any value that is no Program."""
    if not isinstance(program, Program):
        raise BadArgument(program)


def require_no_rings(program):
    """Raises Rings with a ring if a program has rings."""
    ring = program.find_ring()
    if ring is not None:
        raise Rings(ring)


def end_of(program, value):
    """The place where a run stops, or None for any value that is no run."""
    if not isinstance(value, list):
        return None
    place = program.begin
    for way in value:
        if way not in program or program[way][0] != place:
            return None
        place = program[way][1]
    return place if place in program.exits() else None


def is_run(program, value):
    """Whether any value is a run of a program."""
    require_program(program)
    return end_of(program, value) is not None


def stop_of(program, run):
    """The exit where a run stops."""
    require_program(program)
    stop = end_of(program, run)
    if stop is None:
        raise BadRun(run)
    return stop


def leads_into(program, place, goals):
    """Whether a way leads from a place to one of some places."""
    return any([program[way][1] in goals for way in program.leaving(place)])


def places_ahead_of_exits(program, most):
    """For each number from 0 to most the list of the places from which so many ways lead to an exit."""
    layers = [program.exits()]
    while len(layers) <= most:
        nearer = layers[-1]
        layers.append([place for place in program.places() if leads_into(program, place, nearer)])
    return layers


def runs_of(program, length):
    """Yields all runs of exactly so many ways, ascending."""
    # Only beginnings that can become a run are kept, so the search never goes on in vain.
    layers = places_ahead_of_exits(program, length)
    waiting = [(program.begin, [])] if program.begin in layers[length] else []
    while waiting:
        place, path = waiting.pop()
        left = length - len(path)
        if left == 0:
            yield path
        else:
            for way in program.leaving(place)[::-1]:
                goal = program[way][1]
                if goal in layers[left - 1]:
                    waiting.append((goal, [*path, way]))


def runs_to(program, most):
    """Yields all runs of at most so many ways (0 to 8), shorter ones first, then ascending."""
    require_program(program)
    if not is_integer(most) or not 0 <= most <= MOST_OF_RUN:
        raise BadNumber(most)
    for length in range(most + 1):
        yield from runs_of(program, length)
