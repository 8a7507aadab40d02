"""What the points 6 and 7 of the document say, by their words alone, for the tests to check answers by."""

from countededges.counters import all_counters


def own_counters(program):
    """The counters of ways, of stops, and runs."""
    return [counter for counter in all_counters(program) if counter[0] != "place"]


def part(program, counter, step):
    """The part of a counter in a way, in a stop, or in runs, by point 7."""
    if step[0] == "way":
        return int(counter in (step, ("place", program[step[1]][1])))
    if step == ("runs",):
        return int(counter in (step, ("place", program.begin)))
    return int(counter == step)


def kept_by_program(call):
    """A function of a program whose answers are kept, as the rows of one program are asked for many times."""
    answers = {}

    def asked(program):
        key = (program.begin, *program.exits(), *[(way, program[way]) for way in program.ways()])
        if key not in answers:
            answers[key] = call(program)
        return answers[key]
    return asked


@kept_by_program
def rows_of(program):
    """For each counter its value for a flow, as the shares of the flow's own counters."""
    return {counter: [part(program, counter, step) for step in own_counters(program)]
            for counter in all_counters(program)}


def row_of(program, counter):
    """The value of a counter for a flow, as the shares of the flow's own counters."""
    return rows_of(program)[counter]


def rank(rows):
    """The rank of some rows of integers."""
    left = [row for row in rows if any(row)]
    found = 0
    while left:
        found += 1
        pivot = left.pop()
        at = next(at for at, number in enumerate(pivot) if number != 0)
        left = [[one * pivot[at] - other * row[at] for one, other in zip(row, pivot)] for row in left]
        left = [row for row in left if any(row)]
    return found


@kept_by_program
def even_rows(program):
    """For each place what comes to it less what leaves it."""
    rows = []
    for place in program.places():
        leaving = [("way", way) for way in program.leaving(place)] + [("stop", place)]
        coming = row_of(program, ("place", place))
        rows.append([one - int(step in leaving) for one, step in zip(coming, own_counters(program))])
    return rows


def is_told(counters, target):
    """Whether each flow that is 0 for the set is 0 for the target, by the ranks of rows."""
    program = counters.program
    rows = [row_of(program, target), *even_rows(program), *[row_of(program, one) for one in counters.listed()]]
    return rank(rows[1:]) == rank(rows)


def flow_value(program, flow, counter):
    """The value of a flow for a counter."""
    return sum(flow[step] * part(program, counter, step) for step in own_counters(program))


def tells_all(counters):
    """Whether no flow but that of zeros is 0 for the set, by the rank of rows."""
    program = counters.program
    rows = [*even_rows(program), *[row_of(program, one) for one in counters.listed()]]
    return rank(rows) == len(own_counters(program))


def is_even_flow(program, flow):
    """Whether integers for just the right counters are a flow, by point 6."""
    if sorted(flow) != sorted(own_counters(program)) or any(number.__class__ is not int for number in flow.values()):
        return False
    return all(sum(share * flow[step] for share, step in zip(row, own_counters(program))) == 0
               for row in even_rows(program))
