"""Branches: what a program does in the regions into which its questions split all zones of a kind with all starts.

Moments and readings are told as in everyzone.lookups. Numbers are told as in a case: a sign and an integer, for the
sign times the time of the reading at the start, plus the integer.
"""

from everyzone.lookups import placings, readings
from everyzone.regions import split, times_in
from everyzone.words import DAY_LENGTH


class Branch:
    """A region and what a program does there: values, gaps and folds that it meets, the line that fails or None."""

    def __init__(self, region, known, touched, failed=None):
        self.region = region
        self.known = known
        self.touched = touched
        self.failed = failed


def branches_of(program, region, indices):
    """The branches of a program in a region, if only the lines with these indices are looked at."""
    ended = []
    going = [Branch(region, {"now": ("start", 0)}, [])]
    for index in indices:
        further = []
        for branch in going:
            further.extend(branches_behind(branch, index, program.steps[index - 1]))
        ended.extend([branch for branch in further if branch.failed is not None])
        going = [branch for branch in further if branch.failed is None]
    return ended + going


def answer_lines(program):
    """The indices of the lines on which the answers depend, or at which the program may fail."""
    return lines_for(program, program.answers(), ["strict"])


def lines_for(program, names, rules):
    """The indices of the lines that bind names or place by rules, and of those that they depend on."""
    wanted = {name: True for name in names}
    found = []
    for index in range(len(program), 0, -1):
        name, word, x, more = program.steps[index - 1]
        if name in wanted or (word == "place" and more in rules):
            found.append(index)
            wanted[x] = True
            if word in ("between", "before"):
                wanted[more] = True
    return sorted(found)


def branches_behind(branch, index, step):
    """The branches into which a branch splits at a line, a step with this index."""
    name, word, x, more = step
    worth = branch.known[x]
    if word == "place":
        return [branch_placed(branch, index, step, found) for found in placings(branch.region, worth, more == "ahead")]
    if word == "read":
        found = readings(branch.region, worth)
    elif word in ("add", "days"):
        minutes = more if word == "add" else more * DAY_LENGTH
        found = [(branch.region, (worth[0], worth[1] + minutes))]
    elif word == "between":
        found = [(branch.region, difference(worth, branch.known[more]))]
    elif word == "before":
        found = truths(branch.region, difference(worth, branch.known[more]))
    else:
        found = [(region, part_of_day(word, worth, day, more)) for region, day in days(branch.region, worth)]
    return [Branch(region, {**branch.known, name: value}, branch.touched) for region, value in found]


def branch_placed(branch, index, step, found):
    """The branch in which a line has placed a reading, or has failed to."""
    region, moment, torn = found
    name, word, x, rule = step
    touched = branch.touched if torn is None else [*branch.touched, (index, torn)]
    failed = index if torn is not None and rule == "strict" else None
    return Branch(region, {**branch.known, name: moment}, touched, failed)


def part_of_day(word, reading, day, more):
    """The value of a line `at`, `time` or `day` with a reading of a day; the reading at the start is of the day 0."""
    if word == "at":
        return "midnight", day * DAY_LENGTH + more
    if word == "day":
        return 0, day
    return (1 if reading[0] == "start" else 0), reading[1] - day * DAY_LENGTH


def days(region, reading):
    """The days of a reading in the parts of a region: tuples of a region and a day."""
    base, minutes = reading
    if base == "midnight":
        return [(region, minutes // DAY_LENGTH)]
    low, high = times_in(region)
    found = []
    rest = [region]
    for day in range((low + minutes) // DAY_LENGTH, (high + minutes) // DAY_LENGTH):
        upto, rest = split(rest[0], "start", "midnight", (day + 1) * DAY_LENGTH - minutes - 1)
        found.append((upto[0], day))
    return found + [(rest[0], (high + minutes) // DAY_LENGTH)]


def difference(one, other):
    """The other one of two moments or readings minus the one."""
    minutes = other[1] - one[1]
    if one[0] == other[0]:
        return 0, minutes
    # The start is behind midnight by the time of the reading at the start.
    return (1 if other[0] == "start" else -1), minutes


def truths(region, number):
    """Whether a number is greater than 0, in the parts of a region: tuples of a region and a truth."""
    sign, n = number
    if sign == 0:
        return [(region, n > 0)]
    if sign == 1:
        upto, above = split(region, "start", "midnight", -n)
    else:
        above, upto = split(region, "start", "midnight", n - 1)
    return [(part, False) for part in upto] + [(part, True) for part in above]
