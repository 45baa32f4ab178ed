"""Programs compared: whether two programs have the same answers in all zones of a kind."""

from everyzone.branches import answer_lines, branches_of
from everyzone.errors import UnlikeStarts
from everyzone.faults import need_both, need_place
from everyzone.kinds import need_kind
from everyzone.programs import Program, need_program
from everyzone.regions import example_of, region_at, times_in, whole_region
from everyzone.zones import RULES


def parting(one, other, kind):
    """A zone and a start for which two programs are not alike, or None."""
    need_program(one)
    need_program(other)
    need_kind(kind)
    if (one.low, one.high) != (other.low, other.high):
        raise UnlikeStarts(other)
    return parting_in(one, all_branches(one, kind), other)


def alike(one, other, kind):
    """Whether two programs have the same answers in all zones of a kind."""
    return parting(one, other, kind) is None


def needless(program, kind):
    """The ascending list of the lines that could as well add nothing, each by itself."""
    need_both(program, kind)
    branches = all_branches(program, kind)
    found = []
    for index, (name, word, x, more) in enumerate(program.steps, start=1):
        if word in ("add", "days", "at"):
            other = program_with(program, index, f"{name} = add {x} 0")
            if parting_in(program, branches, other) is None:
                found.append(index)
    return found


def safe_rules(program, kind, index):
    """The list of the rules that a line which places a reading may have."""
    need_both(program, kind)
    need_place(program, index)
    branches = all_branches(program, kind)
    name, word, x, own = program.steps[index - 1]
    found = []
    for rule in RULES:
        other = program_with(program, index, f"{name} = place {x} {rule}")
        if rule == own or parting_in(program, branches, other) is None:
            found.append(rule)
    return found


def program_with(program, index, line):
    """A program with another line at an index of its text."""
    lines = str(program).split("\n")
    lines[index] = line
    return Program("\n".join(lines))


def all_branches(program, kind):
    """The branches of a program by all lines that matter for what it answers."""
    return branches_of(program, whole_region(kind, program.low, program.high), answer_lines(program))


def parting_in(one, branches, other):
    """A zone and a start in the branches of the one program for which the other one has other answers, or None."""
    indices = answer_lines(other)
    for branch in branches:
        for part in branches_of(other, branch.region, indices):
            time = time_apart(told_in(one, branch), told_in(other, part), times_in(part.region))
            if time is not None:
                return example_of(region_at(part.region, time))
    return None


def told_in(program, branch):
    """The answers in a branch as a list, or None if the program fails there."""
    if branch.failed is not None:
        return None
    return [branch.known[name] for name in program.answers()]


def time_apart(answers, others, times):
    """One of some times at which answers are different, or None."""
    if answers is None and others is None:
        return None
    if answers is None or others is None or len(answers) != len(others):
        return times[0]
    for answer, other in zip(answers, others):
        time = time_unlike(answer, other, times)
        if time is not None:
            return time
    return None


def time_unlike(answer, other, times):
    """One of some times at which two answers are different, or None."""
    low, high = times
    if isinstance(answer, bool) or isinstance(other, bool):
        return None if answer == other else low
    # Numbers with different signs are equal at one time at most.
    for time in (low, min(low + 1, high)):
        if answer[0] * time + answer[1] != other[0] * time + other[1]:
            return time
    return None
