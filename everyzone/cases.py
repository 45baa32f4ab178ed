"""Tables of cases: what a program does in all zones of a kind."""

from everyzone.bounds import is_bound
from everyzone.branches import answer_lines, branches_of
from everyzone.errors import InvalidCase
from everyzone.kinds import need_kind
from everyzone.programs import MOST_ANSWERS, need_program
from everyzone.regions import LAST_NAMES, NEXT_NAMES, ORDER, example_of, whole_region
from everyzone.words import is_integer, is_whole, need_integer, need_time, time_of
from everyzone.zones import Zone, need_zone

MOST_BOUNDS = 200
FAILS = "fails"


def cases(program, kind):
    """The list of cases, of which each zone of the kind meets just one with each start of the program."""
    need_program(program)
    need_kind(kind)
    region = whole_region(kind, program.low, program.high)
    return [case_of(program, branch) for branch in branches_of(program, region, answer_lines(program))]


def case_of(program, branch):
    """The case of a branch."""
    region = branch.region
    bounds = [(x, y, n) for (x, y), n in region.told.items()]
    return dict(region.sizes), bounds, answers_of(program, branch), example_of(region)


def answers_of(program, branch):
    """The answers of a branch, as a case tells them."""
    if branch.failed is not None:
        return FAILS, branch.failed
    return tuple([branch.known[name] for name in program.answers()])


def meets(case, zone, start):
    """Whether a zone with a start meets a case."""
    need_case(case)
    need_zone(zone)
    need_integer(start)
    jumps, bounds, answers, example = case
    moments, sizes = moments_around(zone, start)
    if not all([name in sizes and sizes[name] == jump for name, jump in jumps.items()]):
        return False
    return all([bound_holds(bound, moments) for bound in bounds])


def moments_around(zone, start):
    """The moments with names of a zone and a start, and the jumps of those that are changes."""
    moments = {"start": start, "midnight": start - time_of(zone.read(start))}
    sizes = {}
    steps = [(change[0], jump) for change, jump in zip(zone.changes(), zone.jump_list())]
    behind = [step for step in steps if step[0] > start]
    upto = [step for step in reversed(steps) if step[0] <= start]
    for name, (moment, jump) in list(zip(NEXT_NAMES, behind)) + list(zip(LAST_NAMES, upto)):
        moments[name] = moment
        sizes[name] = jump
    return moments, sizes


def bound_holds(bound, moments):
    """Whether a case bound holds for moments with names."""
    x, y, n = bound
    if x in moments and y in moments:
        return moments[x] - moments[y] <= n
    # A last change that is not there is less than everything, a next one greater.
    if x in moments:
        return y in NEXT_NAMES
    return y in moments and x in LAST_NAMES


def answers_in(case, time):
    """The answers of a case for a time of the reading at the start, as run tells them."""
    need_case(case)
    need_time(time)
    answers = case[2]
    if answers[0] == FAILS:
        return answers
    return [answer_at(answer, time) for answer in answers]


def answer_at(answer, time):
    """The value of an answer of a case for a time of the reading at the start."""
    if isinstance(answer, bool):
        return answer
    sign, n = answer
    return sign * time + n


def is_case(value):
    """Whether any value is a case, with not more bounds and answers than a table has."""
    if not isinstance(value, tuple) or len(value) != 4:
        return False
    jumps, bounds, answers, example = value
    if not isinstance(jumps, dict) or not isinstance(bounds, list) or len(bounds) > MOST_BOUNDS:
        return False
    if not all([is_change_name(name) and is_whole(jump) for name, jump in jumps.items()]):
        return False
    return all([is_case_bound(bound) for bound in bounds]) and are_answers(answers) and is_example(example)


def is_change_name(value):
    """Whether a value is the name of a change in a case."""
    return isinstance(value, str) and value in ORDER


def is_case_bound(value):
    """Whether a value is a bound with two different names of a case."""
    if not isinstance(value, tuple) or not is_bound(value):
        return False
    x, y, n = value
    return x != y and all([name in ORDER or name in ("start", "midnight") for name in (x, y)])


def are_answers(value):
    """Whether a value tells the answers of a program, or where it fails."""
    if not isinstance(value, tuple) or not 1 <= len(value) <= MOST_ANSWERS:
        return False
    if len(value) == 2 and value[0] == FAILS:
        return is_whole(value[1]) and value[1] >= 1
    return all([is_answer(item) for item in value])


def is_answer(value):
    """Whether a value tells an answer: a truth, or a sign and an integer."""
    if isinstance(value, bool):
        return True
    if not isinstance(value, tuple) or len(value) != 2:
        return False
    return is_integer(value[0], -1, 1) and is_whole(value[1])


def is_example(value):
    """Whether a value is a tuple of a zone and a start."""
    return isinstance(value, tuple) and len(value) == 2 and isinstance(value[0], Zone) and is_whole(value[1])


def need_case(value):
    """Refuse a value that is not a case."""
    if not is_case(value):
        raise InvalidCase(value)
