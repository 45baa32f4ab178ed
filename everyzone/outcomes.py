"""Outcomes: the values that the answers of a program can have in all zones of a kind."""

from everyzone.branches import branches_of, lines_for
from everyzone.errors import InvalidInteger, InvalidPart, NoAnswer
from everyzone.kinds import need_kind
from everyzone.programs import need_program
from everyzone.regions import example_of, region_at, times_in, whole_region
from everyzone.stretches import joined
from everyzone.words import is_integer, is_whole

# A least time that is greater than the greatest one, so there is none.
NO_TIMES = (1, 0)


def values_of(program, kind, index):
    """What an answer can be: a list of stretches, or of truths."""
    name = answer_name(program, kind, index)
    branches = lasting_branches(program, kind, [name])
    if program.kind_of(name) == "truth":
        return [truth for truth in (False, True) if truth in [branch.known[name] for branch in branches]]
    return joined([stretch_of(branch, name) for branch in branches])


def showing(program, kind, index, value):
    """A zone and a start at which an answer has a value, or None."""
    name = answer_name(program, kind, index)
    need_value(value)
    return shown(program, kind, [name], [value])


def least(program, kind, index):
    """The least value that an answer can be, or None if there is none."""
    found = values_of(program, kind, index)
    if len(found) == 0:
        return None
    return found[0] if isinstance(found[0], bool) else found[0][0]


def greatest(program, kind, index):
    """The greatest value that an answer can be, or None if there is none."""
    found = values_of(program, kind, index)
    if len(found) == 0:
        return None
    return found[-1] if isinstance(found[-1], bool) else found[-1][1]


def sure(program, kind):
    """For each answer a tuple of `sure` and its value if it can be just one, and otherwise None."""
    need_program(program)
    need_kind(kind)
    return [sure_value(values_of(program, kind, index)) for index in range(len(program.answers()))]


def sure_value(found):
    """The tuple of `sure` and the only value of those that values_of told, or None if there is another number."""
    if len(found) != 1:
        return None
    if isinstance(found[0], bool):
        return "sure", found[0]
    low, high = found[0]
    return ("sure", low) if low == high else None


def together(program, kind, values):
    """A zone and a start at which the answers are just these values, or None."""
    need_program(program)
    need_kind(kind)
    names = program.answers()
    if not isinstance(values, (list, tuple)) or len(values) != len(names):
        raise InvalidPart(values)
    for item in values:
        need_value(item)
    return shown(program, kind, names, values)


def shown(program, kind, names, values):
    """A zone and a start at which these answers have these values, or None."""
    for branch in lasting_branches(program, kind, names):
        times = times_in(branch.region)
        for name, value in zip(names, values):
            times = times_with(branch.known[name], value, times)
        low, high = times
        if low <= high:
            return example_of(region_at(branch.region, low))
    return None


def times_with(answer, value, times):
    """The least and the greatest of some times at which an answer has a value, or NO_TIMES."""
    if isinstance(answer, bool) or isinstance(value, bool):
        return times if isinstance(value, bool) and answer == value else NO_TIMES
    sign, n = answer
    if sign == 0:
        return times if n == value else NO_TIMES
    time = sign * (value - n)
    return max(times[0], time), min(times[1], time)


def stretch_of(branch, name):
    """The least and the greatest value of a number in a branch; those between occur as well."""
    sign, n = branch.known[name]
    ends = sorted([sign * time + n for time in times_in(branch.region)])
    return ends[0], ends[1]


def lasting_branches(program, kind, names):
    """The branches in which a program does not fail, by the lines on which these names depend."""
    region = whole_region(kind, program.low, program.high)
    found = branches_of(program, region, lines_for(program, names, ["strict"]))
    return [branch for branch in found if branch.failed is None]


def answer_name(program, kind, index):
    """The name of the answer with an index; what is not a program, a kind or such an index is refused."""
    need_program(program)
    need_kind(kind)
    names = program.answers()
    if not is_integer(index, 0, len(names) - 1):
        raise NoAnswer(index)
    return names[index]


def need_value(value):
    """Refuse what is neither an integer nor a truth."""
    if not is_whole(value) and not isinstance(value, bool):
        raise InvalidInteger(value)
