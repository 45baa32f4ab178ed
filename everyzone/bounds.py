"""Bounds on the differences of integers: values that keep them, and rings that show that there are none."""

from everyzone.errors import InvalidBound, InvalidName, InvalidPart, InvalidValues, NotPossible
from everyzone.words import is_integer, is_name, is_whole


def settle(bounds):
    """A tuple of `values` and an integer for each name so that all bounds hold, or of `ring` and a ring."""
    need_bounds(bounds)
    worth = {name: 0 for name in names_in(bounds)}
    lowered_by = {}
    last = None
    # Each round lowers what a chain of one bound more asks for. A chain that visits no name twice has fewer bounds
    # than there are names, so if the last round still lowers a value, a chain runs in a ring.
    for turn in range(len(worth)):
        last = lower_all(bounds, worth, lowered_by)
        if last is None:
            break
    if last is None:
        return "values", worth
    return "ring", ring_behind(bounds, lowered_by, last)


def lower_all(bounds, worth, lowered_by):
    """Lower the values that are too great for a bound, bound by bound; the name lowered last, or None."""
    last = None
    for index, (x, y, n) in enumerate(bounds):
        if worth[x] - worth[y] > n:
            worth[x] = worth[y] + n
            lowered_by[x] = index
            last = x
    return last


def ring_behind(bounds, lowered_by, name):
    """The ring that is reached from a name by going, again and again, to the second name of what lowered it."""
    # After as many steps as there are names that were lowered, the way is in the ring.
    for turn in range(len(lowered_by)):
        name = bounds[lowered_by[name]][1]
    ring = [lowered_by[name]]
    while bounds[ring[-1]][1] != name:
        ring.append(lowered_by[bounds[ring[-1]][1]])
    return ring


def holds(bounds, values):
    """Whether all bounds hold for a dict of values."""
    need_bounds(bounds)
    if not isinstance(values, dict):
        raise InvalidValues(values)
    if not all([name in values and is_whole(values[name]) for name in names_in(bounds)]):
        raise InvalidValues(values)
    return all([values[x] - values[y] <= n for x, y, n in bounds])


def shows_ring(bounds, ring):
    """Whether any value is a ring."""
    need_bounds(bounds)
    if not isinstance(ring, list):
        return False
    if not all([is_integer(index, 0, len(bounds) - 1) for index in ring]):
        return False
    found = [bounds[index] for index in ring]
    # The bound ahead of the first one is the last one, at the index -1.
    chained = all([found[place - 1][1] == found[place][0] for place in range(len(found))])
    return chained and sum([n for x, y, n in found]) < 0


def tightest(bounds, x, y):
    """The least integer for which x minus y is at most that whenever all bounds hold, or None if there is none."""
    word, found = settle(bounds)
    for name in (x, y):
        if not is_name(name):
            raise InvalidName(name)
    if word == "ring":
        raise NotPossible(found)
    return greatest_above(bounds, y).get(x)


def greatest_above(bounds, name):
    """How much greater than a name each name can be at most, if the bounds say so; all bounds can hold."""
    found = {name: 0}
    changed = True
    while changed:
        changed = False
        for x, y, n in bounds:
            if y in found and (x not in found or found[y] + n < found[x]):
                found[x] = found[y] + n
                changed = True
    return found


def names_in(bounds):
    """The list of the names that occur in bounds, each once."""
    found = {}
    for x, y, n in bounds:
        found[x] = True
        found[y] = True
    return list(found)


def need_bounds(bounds):
    """Refuse what is not a list of bounds."""
    if not isinstance(bounds, (list, tuple)):
        raise InvalidPart(bounds)
    for item in bounds:
        if not is_bound(item):
            raise InvalidBound(item)


def is_bound(value):
    """Whether a value is a tuple, or a list, of two names and an integer."""
    if not isinstance(value, (list, tuple)) or len(value) != 3:
        return False
    return is_name(value[0]) and is_name(value[1]) and is_whole(value[2])
