"""Judging values that were read: the lot that has them, or why there is none."""

from countededges.counters import all_counters, flow_counters, is_table, require_counters
from countededges.errors import BadValues, NotTold
from countededges.lots import Lot, is_even, value_in, ways_apart
from countededges.telling import sum_for, untold


def told_value(counters, values, target):
    """The value of a target that the set tells."""
    told = sum_for(counters, target)
    return told(values)


def flow_with(counters, values):
    """The one flow that has the values of a set that tells all, or None."""
    program = counters.program
    flow = {target: told_value(counters, values, target) for target in flow_counters(program)}
    if not is_even(program, flow):
        return None
    agree = all([value_in(program, flow, counter) == values[counter] for counter in values])
    return flow if agree else None


def first_below(program, flow):
    """The first counter of the program, in order, whose value in a flow is below 0, or None."""
    below = [counter for counter in all_counters(program) if value_in(program, flow, counter) < 0]
    return below[0] if below else None


def judged(counters, values):
    """What becomes of values: a tuple with the lot that has them, or with the first reason why there is none."""
    require_counters(counters)
    missing = untold(counters)
    if missing:
        raise NotTold(missing[0])
    if not is_table(values, counters.listed()):
        raise BadValues(values)
    program = counters.program
    flow = flow_with(counters, values)
    if flow is None:
        return ("flow",)
    below = first_below(program, flow)
    if below is not None:
        return ("below", below, value_in(program, flow, below))
    apart = ways_apart(program, flow)
    return ("apart", apart) if apart else ("lot", Lot.counted(program, flow))
