"""Costs of counters, and the cheapest sets that tell all counts or some wished ones.

In the graph of countededges.edges a set tells all exactly if the edges that are not counted make no circle. So the
cheapest set is what the dearest tree leaves over.
"""

from countededges.choices import choices_of
from countededges.counters import Counters, all_counters, is_counter, is_table_within, require_counters
from countededges.edges import edges_of, groups_joined, own_groups
from countededges.errors import BadCosts, BadCounter, NotTold, TooMany
from countededges.programs import require_program
from countededges.telling import circle_of, tells, untold

MOST_WISHED = 10


def are_costs(program, value):
    """Whether any value is a dict from counters of a program to integers above 0."""
    return is_table_within(value, all_counters(program)) and all([value[counter] > 0 for counter in value])


def require_costs(program, costs):
    """Raises BadArgument for any value that is no Program, BadCosts for any value that is no costs of it."""
    require_program(program)
    if not are_costs(program, costs):
        raise BadCosts(costs)


def price_of(costs, chosen):
    """The sum of the costs of some counters."""
    return sum([costs[counter] for counter in chosen])


def cost_of(counters, costs):
    """The sum of the costs of a set."""
    require_counters(counters)
    require_costs(counters.program, costs)
    for counter in counters.listed():
        if counter not in costs:
            raise BadCounter(counter)
    return price_of(costs, counters.listed())


def dearest_first(program, costs):
    """The list of all counters: those that cannot be had, then the others, the dearest first, like ones in order."""
    known = all_counters(program)
    beyond = [counter for counter in known if counter not in costs]
    return beyond + sorted([counter for counter in known if counter in costs], key=lambda counter: -costs[counter])


def left_over(edges, order):
    """The list of the counters, taken in this order, whose edge would close a circle with those ahead of it."""
    groups = own_groups(edges)
    rest = []
    for counter in order:
        source, goal = edges[counter]
        if groups[source] == groups[goal]:
            rest.append(counter)
        else:
            groups = groups_joined(groups, edges[counter])
    return rest


def cheapest(program, costs):
    """A cheapest set of counters that tells all."""
    require_costs(program, costs)
    had = list(costs)
    missing = untold(Counters(program, *had))
    if missing:
        raise NotTold(missing[0])
    rest = left_over(edges_of(program), dearest_first(program, costs))
    return Counters(program, *rest)


def edges_between_groups(program, some):
    """The edges of some counters, each end under the name of the group that all other edges make of the points."""
    edges = edges_of(program)
    groups = own_groups(edges)
    for counter in edges:
        if counter not in some:
            groups = groups_joined(groups, edges[counter])
    return {counter: (groups[edges[counter][0]], groups[edges[counter][1]]) for counter in some}


def tells_each(edges, chosen, targets):
    """Whether counted edges tell each target, one of the edges, too."""
    free = {counter: edges[counter] for counter in edges if counter not in chosen}
    return all([circle_of(free, target) is None for target in targets])


def cheapest_first(known, costs):
    """The list of all choices out of the counters that can be had, like ones ascending by the places in order."""
    numbers = [at for at, counter in enumerate(known) if counter in costs]
    choices = [(sum([costs[known[one]] for one in choice]), choice) for choice in choices_of(numbers)]
    return [[known[number] for number in chosen] for price, chosen in sorted(choices)]


def require_targets(program, costs, targets):
    """Raises TooMany, BadCounter or NotTold if no cheapest sets can be looked for."""
    if len(costs) > MOST_WISHED:
        raise TooMany(len(costs))
    for target in targets:
        if not is_counter(program, target):
            raise BadCounter(target)
    had = list(costs)
    for target in targets:
        if not tells(Counters(program, *had), target):
            raise NotTold(target)


def wished(program, costs, *targets):
    """The list of all cheapest sets that tell the targets, ascending by the places of their counters in order."""
    require_costs(program, costs)
    require_targets(program, costs, targets)
    known = all_counters(program)
    # All other edges are the same for each choice, so the points that they join can be taken as one.
    edges = edges_between_groups(program, [*costs, *targets])
    least = None
    found = []
    for choice in cheapest_first(known, costs):
        price = price_of(costs, choice)
        if (least is None or price == least) and tells_each(edges, choice, targets):
            least = price
            found.append(Counters(program, *choice))
    return found
