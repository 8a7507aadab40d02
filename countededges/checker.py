"""Papers: what shows something of a set of counters, and the checker that judges them, whoever made them."""

from countededges.cheapest import are_costs, cheapest
from countededges.counters import (
    RUNS, Counters, all_counters, flow_counters, has_keys, is_counter, is_table, is_table_within, require_counters)
from countededges.logs import log_of, log_twins
from countededges.lots import Lot, is_even, value_in, values_of
from countededges.programs import is_integer, is_run, is_table_of, is_tuple_with, require_program
from countededges.telling import flow_for, sum_for


def is_flow(program, value):
    """Whether any value is a flow of a program."""
    require_program(program)
    return is_table(value, flow_counters(program)) and is_even(program, value)


def weights_of(program, target, shares, divisor):
    """For each counter the divisor if it is the target, otherwise 0, less its share."""
    known = all_counters(program)
    return {counter: (divisor if counter == target else 0) - shares.get(counter, 0) for counter in known}


def rest_at(program, weights, step):
    """What the weights come to in a way, a stop or runs: those of the counters that have a part in it."""
    if step[0] == "way":
        return weights[step] + weights[("place", program[step[1]][1])]
    if step == RUNS:
        return weights[step] + weights[("place", program.begin)]
    return weights[step]


def drop_at(program, levels, step):
    """What a way, a stop or runs leads down: runs lead from level 0 to the begin, stops from exits to level 0."""
    if step[0] == "way":
        source, goal = program[step[1]]
        return levels[source] - levels[goal]
    if step == RUNS:
        return -levels[program.begin]
    return levels[step[1]]


def is_shown(counters, target, shares, divisor, levels):
    """Whether any values are a sum of the set for a counter of the program, and levels by which it is shown."""
    program = counters.program
    if not is_table_within(shares, counters.listed()) or not is_integer(divisor) or divisor <= 0:
        return False
    if not is_table_of(levels, program.places()):
        return False
    weights = weights_of(program, target, shares, divisor)
    return all([rest_at(program, weights, step) == drop_at(program, levels, step) for step in flow_counters(program)])


def is_told(counters, target, shares, divisor, levels):
    """Whether any values show that a target is told."""
    return is_counter(counters.program, target) and is_shown(counters, target, shares, divisor, levels)


def is_flow_for(program, flow, silent, target):
    """Whether any value is a flow that is 0 for each silent counter and not for the target."""
    if not is_flow(program, flow) or value_in(program, flow, target) == 0:
        return False
    return all([value_in(program, flow, counter) == 0 for counter in silent])


def is_not_told(counters, target, flow):
    """Whether any values show that a target is not told."""
    program = counters.program
    return is_counter(program, target) and is_flow_for(program, flow, counters.listed(), target)


def are_runs(counters, run, other):
    """Whether any values are two runs of the program."""
    return is_run(counters.program, run) and is_run(counters.program, other)


def have_same_values(counters, run, other):
    """Whether two runs have the same values."""
    lots = [Lot.of(counters.program, one) for one in (run, other)]
    return values_of(counters, lots[0]) == values_of(counters, lots[1])


def are_two_runs(counters, run, other):
    """Whether any values are two unlike runs with the same values."""
    return are_runs(counters, run, other) and run != other and have_same_values(counters, run, other)


def are_one_count(counters, target, run, other):
    """Whether any values are two runs with the same values and unlike values for a target."""
    program = counters.program
    if not is_counter(program, target) or not are_runs(counters, run, other):
        return False
    # Unlike values are the same as no same values for the target alone.
    return have_same_values(counters, run, other) and not have_same_values(Counters(program, target), run, other)


def have_same_log(counters, run, other):
    """Whether any values are two unlike runs with the same log."""
    return are_runs(counters, run, other) and run != other and log_of(counters, run) == log_of(counters, other)


def is_cheaply_shown(counters, costs, target, value):
    """Whether any value shows a target to be told, and by counters that do not cost more, if it has a cost itself."""
    if not isinstance(value, tuple) or len(value) != 3:
        return False
    shares, divisor, levels = value
    if not is_shown(counters, target, shares, divisor, levels):
        return False
    return target not in costs or all([costs[one] <= costs[target] for one in shares if shares[one] != 0])


def is_cheapest(counters, costs, shown, flows):
    """Whether any values show that the set is a cheapest one that tells all."""
    program = counters.program
    listed = counters.listed()
    others = [counter for counter in all_counters(program) if counter not in listed]
    if not are_costs(program, costs) or not all([counter in costs for counter in listed]):
        return False
    if not has_keys(shown, others) or not has_keys(flows, listed):
        return False
    if not all([is_cheaply_shown(counters, costs, target, shown[target]) for target in others]):
        return False
    return all([is_flow_for(program, flows[one], [other for other in listed if other != one], one) for one in listed])


CHECKS = {
    "told": is_told, "not told": is_not_told, "two runs": are_two_runs, "one count": are_one_count,
    "same log": have_same_log, "cheapest": is_cheapest,
}
LENGTHS = {"told": 5, "not told": 3, "two runs": 3, "one count": 4, "same log": 3, "cheapest": 4}


def fits(paper, counters):
    """Whether any value is a right paper of a set of counters."""
    require_counters(counters)
    if not is_tuple_with(paper, dict(LENGTHS)):
        return False
    check = CHECKS[paper[0]]
    rest = paper[1:]
    return check(counters, *rest)


def told_paper(counters, target):
    """A right paper told or not told."""
    told = sum_for(counters, target)
    if told is None:
        return ("not told", target, flow_for(counters, target))
    return ("told", target, told.shares(), told.divisor, told.levels())


def log_paper(counters):
    """A right paper same log, or None."""
    found = log_twins(counters)
    return None if found is None else ("same log", found[0], found[1])


def shown_for(counters, target):
    """The tuple of what shows that a target is told that the set tells."""
    told = sum_for(counters, target)
    return (told.shares(), told.divisor, told.levels())


def cheapest_paper(program, costs):
    """The paper of the cheapest set."""
    chosen = cheapest(program, costs)
    others = [counter for counter in all_counters(program) if counter not in chosen]
    shown = {counter: shown_for(chosen, counter) for counter in others}
    flows = {counter: flow_for(chosen - Counters(program, counter), counter) for counter in chosen.listed()}
    return ("cheapest", {counter: costs[counter] for counter in costs}, shown, flows)
