"""Plans: how the changes of a zone can lie between moments at which its offset is known.

A point is a tuple of a moment and the offset at it, or None where any offset will do. The slot with the index i is the
time behind the point i, up to the point i + 1. Changes elsewhere can be left out, so plans have none.
"""

from everyzone.kinds import zone_with


class Plan:
    """An offset at the first point, and changes: the slot of each, its jump, and the earliest moment for it.

    The offset is None until it is known from a later point.
    """

    def __init__(self, base, slots, hops, earliest):
        self.base = base
        self.slots = slots
        self.hops = hops
        self.earliest = earliest


def plans_for(kind, points):
    """All plans for ascending points by which zones of a kind can have these offsets."""
    found = [Plan(points[0][1], [], [], [])]
    for slot in range(len(points) - 1):
        longer = [more for plan in found for more in plans_over(kind, plan, points, slot)]
        found = [plan for more in longer for plan in plans_upto(more, points[slot + 1][1])]
    return found


def plans_over(kind, plan, points, slot):
    """A plan with no further change, and with all further changes that can be in a slot."""
    found = [plan]
    longest = [plan]
    for count in range(kind.most - len(plan.hops)):
        longest = [more for short in longest for more in plans_with_change(kind, short, points, slot)]
        found.extend(longest)
    return found


def plans_with_change(kind, plan, points, slot):
    """A plan with one change more in a slot, by each jump; none if the slot has no room for it."""
    moment = points[slot][0] + 1
    if plan.earliest:
        moment = max(moment, plan.earliest[-1] + kind.apart)
    if moment > points[slot + 1][0]:
        return []
    slots, earliest = [*plan.slots, slot], [*plan.earliest, moment]
    return [Plan(plan.base, slots, [*plan.hops, jump], earliest) for jump in kind.jumps]


def plans_upto(plan, offset):
    """A plan up to a point with an offset: a list with it, or an empty one if the offset is another one there."""
    hop = sum(plan.hops)
    if offset is not None and plan.base is None:
        return [Plan(offset - hop, plan.slots, plan.hops, plan.earliest)]
    return [plan] if offset is None or plan.base + hop == offset else []


def offset_in(plan, index):
    """The offset at the point with an index."""
    return plan.base + sum([hop for slot, hop in zip(plan.slots, plan.hops) if slot < index])


def zone_in(plan):
    """A zone with the changes of a plan."""
    return zone_with(plan.base, list(zip(plan.earliest, plan.hops)))


def stretches_in(kind, plan, points):
    """For each change of a plan the stretch of the moments that it can have."""
    found = []
    for slot, low in reversed(list(zip(plan.slots, plan.earliest))):
        high = points[slot + 1][0]
        if found:
            high = min(high, found[-1][1] - kind.apart)
        found.append((low, high))
    return found
