"""Faults: the gaps and folds that a program can meet, and the lines at which it can fail."""

from everyzone.branches import branches_of, lines_for
from everyzone.errors import InvalidWord, NoPlace
from everyzone.kinds import need_kind
from everyzone.programs import need_program
from everyzone.regions import example_of, whole_region
from everyzone.words import is_integer
from everyzone.zones import RULES, is_torn_word


def faults(program, kind):
    """The sorted list of the tuples of a line and `gap` or `fold` that are met."""
    found = {}
    for branch in placing_branches(program, kind, RULES):
        for fault in branch.touched:
            found[fault] = True
    return sorted(found)


def meeting(program, kind, index, word):
    """A zone and a start at which a line meets a gap or a fold, or None."""
    need_both(program, kind)
    need_place(program, index)
    if not is_torn_word(word):
        raise InvalidWord(word)
    for branch in placing_branches(program, kind, RULES):
        if (index, word) in branch.touched:
            return example_of(branch.region)
    return None


def failing(program, kind):
    """A zone and a start for which a program fails, or None."""
    for branch in placing_branches(program, kind, ["strict"]):
        if branch.failed is not None:
            return example_of(branch.region)
    return None


def failing_lines(program, kind):
    """The ascending list of the lines at which a program can fail."""
    failed = [branch.failed for branch in placing_branches(program, kind, ["strict"])]
    return sorted({index for index in failed if index is not None})


def most_faults(program, kind):
    """The greatest number of gaps and folds that are met at once, with a zone and a start for which they are."""
    branches = placing_branches(program, kind, RULES)
    found = max(branches, key=lambda branch: len(branch.touched))
    zone, start = example_of(found.region)
    return len(found.touched), zone, start


def placing_branches(program, kind, rules):
    """The branches of a program by its lines that place readings by some rules, `strict` among them."""
    need_both(program, kind)
    region = whole_region(kind, program.low, program.high)
    return branches_of(program, region, lines_for(program, [], rules))


def need_both(program, kind):
    """Refuse what is not a program and a kind."""
    need_program(program)
    need_kind(kind)


def need_place(program, index):
    """Refuse what is not the index of a line that places a reading."""
    if not is_integer(index, 1, len(program)) or program.steps[index - 1][1] != "place":
        raise NoPlace(index)
