"""Changes of a set of counters and of the exits of its program, and the least of them that reach some targets."""

from countededges.choices import choices_of
from countededges.counters import Counters, has_counter_form, is_counter, require_counters
from countededges.errors import BadChange, BadCounter, BadProgram
from countededges.programs import Program, is_tuple_with, is_word
from countededges.telling import tells

MOST_CHANGES = 5


def has_change_form(value):
    """Whether any value has the form of a change."""
    if not is_tuple_with(value, {"add": 2, "drop": 2, "exit": 2, "no exit": 2}):
        return False
    return has_counter_form(value[1]) if value[0] in ("add", "drop") else is_word(value[1])


def with_exits(counters, exits):
    """The same counters of the program with other exits, or None if there is no such program."""
    program = counters.program
    try:
        other = Program({way: program[way] for way in program.ways()}, program.begin, exits)
    except BadProgram:
        return None
    listed = counters.listed()
    return Counters(other, *listed)


def with_exit(counters, place):
    """The counters where a place is an exit, too, or None if that cannot be made."""
    # What is no place, or is an exit twice, makes no program.
    return with_exits(counters, [*counters.program.exits(), place])


def without_exit(counters, place):
    """The counters where a place is no exit any more, or None if that cannot be made."""
    exits = counters.program.exits()
    if place not in exits or ("stop", place) in counters:
        return None
    return with_exits(counters, [other for other in exits if other != place])


def with_counter(counters, counter):
    """The set with one counter more, or None if that cannot be made."""
    if not is_counter(counters.program, counter) or counter in counters:
        return None
    return counters + Counters(counters.program, counter)


def without_counter(counters, counter):
    """The set with one counter less, or None if that cannot be made."""
    return counters - Counters(counters.program, counter) if counter in counters else None


MAKERS = {"add": with_counter, "drop": without_counter, "exit": with_exit, "no exit": without_exit}


def changed_once(counters, change):
    """The set with a change of the right form made, or None if it cannot be made."""
    make = MAKERS[change[0]]
    return make(counters, change[1])


def require_changes(changes):
    """Raises BadChange for any value that is no list of at most five."""
    if not isinstance(changes, list) or len(changes) > MOST_CHANGES:
        raise BadChange(changes)


def changed_by(counters, changes):
    """The set with the changes of a list made in order."""
    require_counters(counters)
    require_changes(changes)
    changed = counters
    for change in changes:
        changed = changed_once(changed, change) if has_change_form(change) else None
        if changed is None:
            raise BadChange(change)
    return changed


def reaches(counters, changes, targets):
    """Whether changes of the right form can all be made in order, and the new set tells each target."""
    try:
        changed = changed_by(counters, changes)
    except BadChange:
        return False
    return all([is_counter(changed.program, target) and tells(changed, target) for target in targets])


def is_within(some, numbers):
    """Whether all of some numbers are among others."""
    return all([number in numbers for number in some])


def sets_of_numbers(many):
    """The list of all ascending lists of numbers below so many, shorter ones first, then ascending."""
    return sorted(choices_of(list(range(many))), key=lambda some: (len(some), some))


def least_changes(counters, changes, *targets):
    """The list of the least sets of changes that reach the targets, fewer changes first, then ascending."""
    require_counters(counters)
    require_changes(changes)
    for change in changes:
        if not has_change_form(change):
            raise BadChange(change)
    for target in targets:
        if not has_counter_form(target):
            raise BadCounter(target)
    least = []
    for numbers in sets_of_numbers(len(changes)):
        # Sets with fewer changes come first, so one that holds a least one is not looked at again.
        if not any([is_within(some, numbers) for some in least]):
            if reaches(counters, [changes[number] for number in numbers], targets):
                least.append(numbers)
    return least
