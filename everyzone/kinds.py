"""Kinds of zones: which jumps their changes may have, how near to one another, and how many of them."""

from everyzone.errors import Duplicate, InvalidChange, InvalidInteger, InvalidJump, InvalidPart, NotKind
from everyzone.words import is_integer, is_whole, is_whole_pair, need_integer
from everyzone.zones import Zone, can_follow, is_jump, need_zone

MOST_JUMPS = 4
MOST_CHANGES = 3


class Kind:
    """Jumps in ascending order, the least time from one change to the next, and the greatest number of changes."""

    def __init__(self, jumps, apart, most=2):
        if not isinstance(jumps, (list, tuple)) or not 1 <= len(jumps) <= MOST_JUMPS:
            raise InvalidPart(jumps)
        self.sizes = tuple(sorted(checked_jumps(jumps)))
        # Changes that are so far apart are always far enough apart for a zone.
        if not is_whole(apart) or apart <= 2 * max([abs(jump) for jump in self.sizes]):
            raise InvalidInteger(apart)
        if not is_integer(most, 0, MOST_CHANGES):
            raise InvalidInteger(most)
        self.distance = apart
        self.many = most

    @property
    def jumps(self):
        """The tuple of the jumps, in ascending order."""
        return self.sizes

    @property
    def apart(self):
        """The least time."""
        return self.distance

    @property
    def most(self):
        """The greatest number of changes."""
        return self.many

    def __contains__(self, x):
        return is_whole(x) and x in self.sizes

    def __eq__(self, other):
        if not isinstance(other, Kind):
            return False
        return self.sizes == other.sizes and self.distance == other.distance and self.many == other.many

    def has(self, zone):
        """Whether a zone is of the kind."""
        return self.why_not(zone) is None

    def why_not(self, zone):
        """The first reason why a zone is not of the kind, as a tuple of a word and a number, or None."""
        need_zone(zone)
        if len(zone) > self.many:
            return "most", len(zone)
        for index, jump in enumerate(zone.jump_list()):
            if jump not in self.sizes:
                return "jump", index
        moments = [moment for moment, offset in zone.changes()]
        for index in range(1, len(moments)):
            if moments[index] - moments[index - 1] < self.distance:
                return "apart", index
        return None


def checked_jumps(jumps):
    """The jumps of a kind as a list, each looked at before the next one."""
    found = []
    for item in jumps:
        if not is_whole(item) or not is_jump(item):
            raise InvalidJump(item)
        if item in found:
            raise Duplicate(item)
        found.append(item)
    return found


def need_kind(value):
    """Refuse a value that is not a kind of zones."""
    if not isinstance(value, Kind):
        raise NotKind(value)


def zone_with(offset, steps):
    """The zone with a first offset, and with changes that are told by their moments and jumps."""
    need_integer(offset)
    if not isinstance(steps, (list, tuple)):
        raise InvalidPart(steps)
    rows = []
    before = offset
    for item in steps:
        if not is_whole_pair(item):
            raise InvalidChange(item)
        row = (item[0], before, before + item[1])
        if not can_follow(rows, row):
            raise InvalidChange(item)
        rows.append(row)
        before = row[2]
    return Zone(offset, [(row[0], row[2]) for row in rows])


def outside(one, other):
    """A zone of the one kind that is not of the other kind, or None if there is none."""
    need_kind(one)
    need_kind(other)
    if one.most > other.most:
        return even_zone(one, one.jumps[0], one.most)
    strange = [jump for jump in one.jumps if jump not in other.jumps]
    if one.most > 0 and strange:
        return even_zone(one, strange[0], 1)
    # With fewer than two changes no time lies between them, so only then the least times make no difference.
    if one.most > 1 and one.apart < other.apart:
        return even_zone(one, one.jumps[0], 2)
    return None


def even_zone(kind, jump, many):
    """The zone with so many changes by one and the same jump, each the least time of a kind behind the last one."""
    return zone_with(0, [(kind.apart * index, jump) for index in range(many)])
