"""Which counts are told for all lots: sums with levels, or else flows and two lots.

In the graph of countededges.edges a target that is not counted is told exactly if its edge is on no circle of edges
that are not counted, in whatever directions these lead. Such a circle is a flow. If there is none, the graph has a side
that only the target's edge and counted ones join to the rest; what comes to this side leaves it, and that is the sum.
"""

from countededges.counters import flow_counters, is_table, require_counters, require_target
from countededges.edges import OUTSIDE, edges_of, edges_without, outlet_of, runs_through
from countededges.errors import BadValues
from countededges.lots import Lot
from countededges.programs import paths_from


class Sum:
    """A sum by which a target is told, with the levels that show it; it never changes."""

    def __init__(self, target, shares, divisor, levels):
        self.aim = target
        self.weights = shares
        self.unit = divisor
        self.heights = levels

    @property
    def target(self):
        """The counter that is told."""
        return self.aim

    @property
    def divisor(self):
        """How many times the value of the target the sum is."""
        return self.unit

    def shares(self):
        """The dict from each counter of the set to its share."""
        return {counter: self.weights[counter] for counter in self.weights}

    def levels(self):
        """The dict from each place to its level."""
        return {place: self.heights[place] for place in self.heights}

    def __call__(self, values):
        if not is_table(values, list(self.weights)):
            raise BadValues(values)
        total = sum([self.weights[counter] * values[counter] for counter in self.weights])
        if total % self.unit != 0:
            raise BadValues(values)
        return total // self.unit


def paths_beside(free, target):
    """The paths from where the target's edge leads to, along other free edges in both directions.

    A step of a path is a tuple (counter, sign), with the sign -1 for an edge that is gone along backwards.
    """
    steps = {}
    for counter in free:
        source, goal = free[counter]
        if counter != target:
            steps[(counter, 1)] = (source, goal)
            steps[(counter, -1)] = (goal, source)
    return paths_from(steps, free[target][1])


def circle_of(free, target):
    """The list of the steps of a circle of free edges with the target in it, or None."""
    if target not in free:
        return None
    back = paths_beside(free, target).get(free[target][0])
    return None if back is None else [(target, 1), *back]


def is_in(point, side):
    """1 if a point is on a side of the graph, otherwise 0."""
    return 1 if point in side else 0


def sum_of_side(counters, target, side):
    """The sum by which a target is told that leads to a side of the graph, or that is counted itself."""
    edges = edges_of(counters.program)
    shares = {}
    for counter in counters.listed():
        source, goal = edges[counter]
        shares[counter] = is_in(source, side) - is_in(goal, side) + (1 if counter == target else 0)
    levels = {place: is_in(OUTSIDE, side) - is_in(outlet_of(place), side) for place in counters.program.places()}
    return Sum(target, shares, 1, levels)


def sum_for(counters, target):
    """A sum by which the target is told, or None."""
    require_target(counters, target)
    free = edges_without(counters)
    if target not in free:
        return sum_of_side(counters, target, {})
    side = paths_beside(free, target)
    return None if free[target][0] in side else sum_of_side(counters, target, side)


def tells(counters, target):
    """Whether the target is told."""
    require_target(counters, target)
    return circle_of(edges_without(counters), target) is None


def untold(counters):
    """The list of all counters of the program that are not told, in order."""
    require_counters(counters)
    free = edges_without(counters)
    return [target for target in free if circle_of(free, target) is not None]


def flow_for(counters, target):
    """A flow that is 0 for all counters of the set and not for the target, or None."""
    require_target(counters, target)
    circle = circle_of(edges_without(counters), target)
    if circle is None:
        return None
    signs = {counter: sign for counter, sign in circle}
    return {counter: signs.get(counter, 0) for counter in flow_counters(counters.program)}


def lot_of_all(program):
    """A lot that takes each way and stops at each exit."""
    edges = edges_of(program)
    legs = [(edges[counter][0], [counter], edges[counter][1]) for counter in flow_counters(program)[:-1]]
    runs = runs_through(program, legs)
    return Lot.of(program, *runs)


def lots_for(counters, target):
    """A tuple of two lots with the same values and unlike values for the target, or None."""
    flow = flow_for(counters, target)
    if flow is None:
        return None
    # Each count is 2 or more and the flow is nowhere below -1, so all ways are still taken.
    one = lot_of_all(counters.program) * 2
    counts = one.counts()
    return (one, Lot.counted(counters.program, {counter: counts[counter] + flow[counter] for counter in flow}))
