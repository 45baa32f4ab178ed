"""Programs that run in one zone, from one start."""

from everyzone.errors import NotStart
from everyzone.programs import need_program
from everyzone.words import DAY_LENGTH, day_of, need_integer, reading_of, time_of
from everyzone.zones import need_zone, torn_word


def run(program, zone, start):
    """The list of the answers, or a tuple of `fails` and the index of the line that fails."""
    need_start(program, zone, start)
    known, touched, failed = walk(program, zone, start)
    if failed is not None:
        return "fails", failed
    return [known[name] for name in program.answers()]


def values(program, zone, start):
    """The values of all names, up to the line that fails, if one fails."""
    need_start(program, zone, start)
    known, touched, failed = walk(program, zone, start)
    return known


def met(program, zone, start):
    """The lines that place a reading in a gap or a fold, up to the line that fails: tuples of an index and a word."""
    need_start(program, zone, start)
    known, touched, failed = walk(program, zone, start)
    return touched


def need_start(program, zone, start):
    """Refuse what is not a program, a zone, and a moment at which the program can start in the zone."""
    need_program(program)
    need_zone(zone)
    need_integer(start)
    if not program.low <= time_of(zone.read(start)) <= program.high:
        raise NotStart(start)


def walk(program, zone, start):
    """The values of the names, the gaps and folds that are met, and the index of the line that fails or None."""
    known = {"now": start}
    touched = []
    for index, step in enumerate(program.steps, start=1):
        name, word, x, more = step
        torn = torn_word(zone, known[x]) if word == "place" else None
        if torn is not None:
            touched.append((index, torn))
        worth = step_value(step, known, zone)
        if worth is None:
            return known, touched, index
        known[name] = worth
    return known, touched, None


def step_value(step, known, zone):
    """The value that a step gives, or None if it fails."""
    name, word, x, more = step
    worth = known[x]
    if word == "read":
        return zone.read(worth)
    if word == "place":
        return zone.place(worth, more)
    if word == "add":
        return worth + more
    if word == "days":
        return worth + more * DAY_LENGTH
    if word == "at":
        return reading_of(day_of(worth), more)
    if word == "time":
        return time_of(worth)
    if word == "day":
        return day_of(worth) - day_of(zone.read(known["now"]))
    if word == "between":
        return known[more] - worth
    return worth < known[more]
