"""A program as a graph in which each counter is one edge.

Each place is two points: where it is come to, and where it is left; the edge between them is the counter of the place.
One point more is outside: stops lead to it, and runs lead from it to the begin. So a flow goes round in this graph,
and the value of a counter is what goes along its edge.
"""

from countededges.counters import RUNS, all_counters
from countededges.programs import paths_from

OUTSIDE = ("outside",)


def inlet_of(place):
    """The point where a place is come to."""
    return ("in", place)


def outlet_of(place):
    """The point where a place is left."""
    return ("out", place)


def edge_of(program, counter):
    """The tuple (from, to) of the points between which the edge of a counter leads."""
    kind = counter[0]
    if kind == "way":
        source, goal = program[counter[1]]
        return (outlet_of(source), inlet_of(goal))
    if kind == "place":
        return (inlet_of(counter[1]), outlet_of(counter[1]))
    if kind == "stop":
        return (outlet_of(counter[1]), OUTSIDE)
    return (OUTSIDE, inlet_of(program.begin))


def edges_of(program):
    """The dict from all counters, in order, to their edges."""
    return {counter: edge_of(program, counter) for counter in all_counters(program)}


def edges_without(counters):
    """The dict from the counters of the program that are not in the set, in order, to their edges."""
    chosen = counters.listed()
    edges = edges_of(counters.program)
    return {counter: edges[counter] for counter in edges if counter not in chosen}


def unlogged_edges(counters):
    """The dict from those counters that leave no mark in a log to their edges; runs is not logged, but is no step."""
    edges = edges_without(counters)
    return {counter: edges[counter] for counter in edges if counter != RUNS}


def groups_joined(groups, edge):
    """The groups of all points, each under the name of its group, with those of the two ends of an edge made one."""
    one, other = groups[edge[0]], groups[edge[1]]
    return {point: other if groups[point] == one else groups[point] for point in groups}


def own_groups(edges):
    """The groups of all points of some edges, each point in a group of its own."""
    return {point: point for counter in edges for point in edges[counter]}


def forks_of(program):
    """The list of the points from which several edges can lead: where places are left."""
    return [outlet_of(place) for place in program.places()]


def ways_among(steps):
    """The list of the ways among some counters."""
    return [counter[1] for counter in steps if counter[0] == "way"]


def runs_through(program, legs):
    """For each leg (start, steps, goal) a run that comes to the start, goes along the steps to the goal, and stops.

    All legs with the same start have the same ways ahead of it, and all with the same goal the same behind it.
    """
    edges = edges_of(program)
    ahead = paths_from(edges, inlet_of(program.begin))
    # Looked for backwards, so that one search finds the way out from every point.
    behind = paths_from({counter: (edges[counter][1], edges[counter][0]) for counter in edges}, OUTSIDE)
    return [ways_among([*ahead[start], *steps, *behind[goal][::-1]]) for start, steps, goal in legs]
