"""Logs of readings: which zones of a kind fit them, and what is sure of further readings."""

from everyzone.errors import InvalidEntry, InvalidLog
from everyzone.kinds import need_kind
from everyzone.plans import offset_in, plans_for, stretches_in, zone_in
from everyzone.stretches import joined
from everyzone.words import is_whole_pair, need_integer
from everyzone.zones import need_zone

MOST_ENTRIES = 12


def fits(zone, log):
    """Whether a zone has the readings of a log."""
    need_zone(zone)
    need_log(log)
    return all([zone.read(moment) == reading for moment, reading in log])


def fitting(kind, log):
    """A zone of a kind that fits a log, or None."""
    need_kind(kind)
    need_log(log)
    plans = plans_for(kind, points_of(log))
    return zone_in(plans[0]) if plans else None


def shortest_clash(kind, log):
    """The indices of the ends of the fewest successive entries that no zone of a kind fits, or None if one fits all."""
    need_kind(kind)
    need_log(log)
    points = points_of(log)
    for further in range(len(points)):
        for first in range(len(points) - further):
            if not plans_for(kind, points[first:first + further + 1]):
                return first, first + further
    return None


def offsets_at(kind, log, moment):
    """The ascending list of all offsets at a moment in zones of a kind that fit a log."""
    need_kind(kind)
    need_log(log)
    need_integer(moment)
    points, index = points_around(log, moment)
    return sorted({offset_in(plan, index) for plan in plans_for(kind, points)})


def fitting_with(kind, log, moment, offset):
    """A zone of a kind that fits a log and has an offset at a moment, or None."""
    need_kind(kind)
    need_log(log)
    need_integer(moment)
    need_integer(offset)
    points, index = points_around(log, moment)
    for plan in plans_for(kind, points):
        if offset_in(plan, index) == offset:
            return zone_in(plan)
    return None


def changes_between(kind, log):
    """For each two successive entries the least and the greatest number of changes between them, or None."""
    need_kind(kind)
    need_log(log)
    plans = plans_for(kind, points_of(log))
    if not plans:
        return None
    counts = [[plan.slots.count(slot) for plan in plans] for slot in range(len(log) - 1)]
    return [(min(row), max(row)) for row in counts]


def change_stretches(kind, log):
    """The ascending list of the stretches of the moments between the entries at which there can be a change."""
    need_kind(kind)
    need_log(log)
    points = points_of(log)
    return joined([stretch for plan in plans_for(kind, points) for stretch in stretches_in(kind, plan, points)])


def points_of(log):
    """The points of a log: its moments and the offsets at them."""
    return [(moment, reading - moment) for moment, reading in log]


def points_around(log, moment):
    """The points of a log with one at a moment, which may have any offset there, and the index of this point."""
    points = points_of(log)
    index = len([point for point in points if point[0] < moment])
    if index == len(points) or points[index][0] > moment:
        points.insert(index, (moment, None))
    return points, index


def need_log(value):
    """Refuse a value that is not a log."""
    if not isinstance(value, (list, tuple)) or not 1 <= len(value) <= MOST_ENTRIES:
        raise InvalidLog(value)
    for index, item in enumerate(value):
        if not is_whole_pair(item) or (index > 0 and item[0] <= value[index - 1][0]):
            raise InvalidEntry(item)
