"""Logs of runs, and whether they tell the run."""

from countededges.counters import require_counters
from countededges.edges import forks_of, runs_through, unlogged_edges
from countededges.programs import paths_from, stop_of


def log_of(counters, run):
    """The log of a run: its counters that are in the set, in the order in which it comes to them."""
    require_counters(counters)
    program = counters.program
    stop = stop_of(program, run)
    passed = [("place", program.begin)]
    for way in run:
        passed.extend([("way", way), ("place", program[way][1])])
    passed.append(("stop", stop))
    chosen = {counter: True for counter in counters.listed()}
    return [counter for counter in passed if counter in chosen]


def two_legs(edges, start):
    """Two unlike legs along edges from the start to one same goal, or None."""
    paths = paths_from(edges, start)
    for counter in edges:
        source, goal = edges[counter]
        # An edge that is not the last one of the path to its goal leads to it on another path.
        if source in paths and paths[goal][-1:] != [counter]:
            return [(start, paths[goal], goal), (start, [*paths[source], counter], goal)]
    return None


def log_twins(counters):
    """A tuple of two unlike runs with the same log, or None if the set logs the program."""
    require_counters(counters)
    # Each counter is one edge, so runs with the same log are at the same point at each mark: unlike ones part
    # at a fork between two marks, and come together ahead of the next one.
    edges = unlogged_edges(counters)
    for start in forks_of(counters.program):
        legs = two_legs(edges, start)
        if legs is not None:
            return tuple(runs_through(counters.program, legs))
    return None
