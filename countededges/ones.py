"""Whether one run is told by its counters, of programs without rings."""

from countededges.counters import require_counters, require_target
from countededges.edges import forks_of, runs_through, unlogged_edges
from countededges.logs import log_twins
from countededges.programs import paths_from, require_no_rings


def twins(counters):
    """A tuple of two unlike runs with the same values, or None if the set tells one run."""
    require_counters(counters)
    require_no_rings(counters.program)
    # Without rings the same values are the same log: each counter but runs is at most 1, and in the same order.
    return log_twins(counters)


def legs_around(counters, target):
    """Two legs with the same start, goal and log, one of them with the target, or None; for programs without rings."""
    edges = unlogged_edges(counters)
    if target not in edges:
        return None
    source, goal = edges[target]
    others = {counter: edges[counter] for counter in edges if counter != target}
    onward = paths_from(others, goal)
    for start in forks_of(counters.program):
        paths = paths_from(others, start)
        shared = [point for point in paths if point in onward]
        if source in paths and shared:
            meeting = shared[0]
            through = [*paths[source], target, *onward[meeting]]
            return [(start, through, meeting), (start, paths[meeting], meeting)]
    return None


def twins_for(counters, target):
    """A tuple of two runs with the same values and unlike values for the target, or None."""
    require_target(counters, target)
    require_no_rings(counters.program)
    legs = legs_around(counters, target)
    return None if legs is None else tuple(runs_through(counters.program, legs))
