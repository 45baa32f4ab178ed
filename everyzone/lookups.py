"""The readings of moments, and the moments at which readings are placed, in the parts of a region.

A moment is told by a base, `start` or `midnight`, and how many minutes it is behind that. A reading is told by the
moment that would have it if the offset were everywhere the one at the start: a base and minutes, too. So the reading at
the start is ("start", 0), and the one with the same day and the time 0 is ("midnight", 0).
"""

from everyzone.regions import LAST_NAMES, NEXT_NAMES, split


def readings(region, moment):
    """The readings at a moment: tuples of a part of the region and a reading."""
    return readings_ahead(region, moment, moment[1], 0)


def readings_ahead(region, moment, minutes, count):
    """The readings at a moment, minutes behind the base so far, if it is not ahead of the first next changes."""
    if count == len(NEXT_NAMES):
        return [(region, (moment[0], minutes))]
    name = NEXT_NAMES[count]
    passed, short = split(region, name, moment[0], moment[1])
    found = []
    for part in passed:
        found.extend(readings_ahead(part, moment, minutes + part.sizes[name], count + 1))
    for part in short:
        if count == 0:
            found.extend(readings_behind(part, moment, minutes, 0))
        else:
            found.append((part, (moment[0], minutes)))
    return found


def readings_behind(region, moment, minutes, count):
    """The readings at a moment, minutes behind the base so far, if it is ahead of the first last changes."""
    if count == len(LAST_NAMES):
        return [(region, (moment[0], minutes))]
    name = LAST_NAMES[count]
    short, passed = split(region, name, moment[0], moment[1])
    found = [(part, (moment[0], minutes)) for part in short]
    for part in passed:
        found.extend(readings_behind(part, moment, minutes - part.sizes[name], count + 1))
    return found


def placings(region, reading, early):
    """Where a reading is placed: tuples of a part of the region, a moment, and `gap`, `fold` or None.

    In gaps and folds the offset before the change is taken if `early` is true, and otherwise the one of the change.
    """
    return placings_ahead(region, reading, early, 0)


def placings_ahead(region, reading, early, count):
    """Where a reading is placed that is behind the gaps and folds of the first next changes.

    The reading is told by the moment that would have it by the offset of the last one of these changes.
    """
    if count == len(NEXT_NAMES):
        return [(region, reading, None)]
    base, minutes = reading
    name = NEXT_NAMES[count]
    near, clear = split(region, name, base, minutes + deepest_fold(region))
    found = []
    for part in near:
        jump = part.sizes[name]
        beyond, upto = split(part, name, base, minutes - max(jump, 0))
        for place in beyond:
            found.extend(placings_ahead(place, (base, minutes - jump), early, count + 1))
        for place in upto:
            torn, short = split(place, name, base, minutes - min(jump, 0))
            moment = (base, minutes if early else minutes - jump)
            found.extend([(rest, moment, torn_by(jump)) for rest in torn])
            clear = clear + short
    for part in clear:
        found.extend(placings_behind(part, reading, early, 0) if count == 0 else [(part, reading, None)])
    return found


def placings_behind(region, reading, early, count):
    """Where a reading is placed that is ahead of the gaps and folds of the first last changes and of all next ones.

    The reading is told by the moment that would have it by the offset before these last changes.
    """
    if count == len(LAST_NAMES):
        return [(region, reading, None)]
    base, minutes = reading
    name = LAST_NAMES[count]
    clear, near = split(region, name, base, minutes - deepest_fold(region))
    found = [(part, reading, None) for part in clear]
    for part in near:
        jump = part.sizes[name]
        after, upto = split(part, name, base, minutes + min(jump, 0))
        found.extend([(place, reading, None) for place in after])
        for place in upto:
            torn, beyond = split(place, name, base, minutes + max(jump, 0))
            moment = (base, minutes + jump if early else minutes)
            found.extend([(rest, moment, torn_by(jump)) for rest in torn])
            for rest in beyond:
                found.extend(placings_behind(rest, (base, minutes + jump), early, count + 1))
    return found


def torn_by(jump):
    """The word for the readings that a jump tears."""
    return "gap" if jump > 0 else "fold"


def deepest_fold(region):
    """The length of the longest fold that a change can have in a region, 0 if there are only gaps."""
    return max(-region.family.jumps[0], 0)
