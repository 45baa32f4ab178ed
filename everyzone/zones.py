"""Zones: offsets that change, the readings of moments, and the moments at which readings are placed."""

from everyzone.errors import InvalidChange, InvalidPart, InvalidRule, NotZone
from everyzone.words import is_whole, is_whole_pair, need_integer

GREATEST_JUMP = 720
RULES = ("ahead", "behind", "strict")
FAULT_WORDS = ("gap", "fold")
# By the number of the moments that have the reading.
TORN_WORDS = {0: "gap", 2: "fold"}


class Zone:
    """A first offset and changes, kept as rows: the moment, the offset before the change, and its offset."""

    def __init__(self, offset, changes=()):
        need_integer(offset)
        if not isinstance(changes, (list, tuple)):
            raise InvalidPart(changes)
        self.base = offset
        self.rows = rows_of(offset, changes)

    @property
    def first(self):
        """The first offset."""
        return self.base

    def changes(self):
        """The list of the changes, as tuples of a moment and an offset."""
        return [(moment, after) for moment, before, after in self.rows]

    def jump_list(self):
        """The list of the jumps of the changes."""
        return [jump_of(row) for row in self.rows]

    def __len__(self):
        return len(self.rows)

    def __contains__(self, x):
        return is_whole(x) and x in [row[0] for row in self.rows]

    def __eq__(self, other):
        return isinstance(other, Zone) and self.base == other.base and self.rows == other.rows

    def offset_at(self, moment):
        """The offset at a moment."""
        need_integer(moment)
        offset = self.base
        for change, before, after in self.rows:
            if change <= moment:
                offset = after
        return offset

    def read(self, moment):
        """The reading at a moment."""
        return moment + self.offset_at(moment)

    def moments_of(self, reading):
        """The ascending list of the moments with a reading."""
        need_integer(reading)
        offsets = [self.base] + [after for moment, before, after in self.rows]
        # The same offset may be in force in several stretches, but it gives the reading one moment only.
        return sorted({reading - offset for offset in offsets if self.offset_at(reading - offset) == offset})

    def gaps(self):
        """The list of the gaps, as tuples of the first reading and the first one behind the gap."""
        return [torn_readings(row) for row in self.rows if jump_of(row) > 0]

    def folds(self):
        """The list of the folds, as tuples of the first reading and the first one behind the fold."""
        return [torn_readings(row) for row in self.rows if jump_of(row) < 0]

    def place(self, reading, rule):
        """The moment of a reading by a rule, or None if placing fails."""
        need_integer(reading)
        if not is_rule(rule):
            raise InvalidRule(rule)
        for row in self.rows:
            low, high = torn_readings(row)
            if low <= reading < high:
                return placed_at_change(row, reading, rule)
        return self.moments_of(reading)[0]

    def moved(self, minutes):
        """The zone with all changes later by some minutes."""
        need_integer(minutes)
        return Zone(self.base, [(moment + minutes, offset) for moment, offset in self.changes()])

    def raised(self, minutes):
        """The zone with all offsets greater by some minutes."""
        need_integer(minutes)
        return Zone(self.base + minutes, [(moment, offset + minutes) for moment, offset in self.changes()])

    def until(self, moment):
        """The zone without the changes behind a moment."""
        need_integer(moment)
        return Zone(self.base, [change for change in self.changes() if change[0] <= moment])

    def since(self, moment):
        """The zone without the changes at a moment or ahead of it."""
        return Zone(self.offset_at(moment), [change for change in self.changes() if change[0] > moment])


def rows_of(offset, changes):
    """The rows of a zone with a first offset and a list of changes."""
    rows = []
    before = offset
    for item in changes:
        if not is_whole_pair(item):
            raise InvalidChange(item)
        row = (item[0], before, item[1])
        if not can_follow(rows, row):
            raise InvalidChange(item)
        rows.append(row)
        before = item[1]
    return rows


def can_follow(rows, row):
    """Whether a row has a jump and is far enough behind the last one of the rows, if there is one."""
    if not is_jump(jump_of(row)):
        return False
    if len(rows) == 0:
        return True
    last = rows[-1]
    return row[0] - last[0] > abs(jump_of(last)) + abs(jump_of(row))


def is_jump(value):
    """Whether an integer may be the jump of a change."""
    return value != 0 and abs(value) <= GREATEST_JUMP


def jump_of(row):
    """The jump of the change of a row."""
    return row[2] - row[1]


def torn_readings(row):
    """The gap or fold of the change of a row: its first reading and the first one behind it."""
    moment, before, after = row
    return moment + min(before, after), moment + max(before, after)


def placed_at_change(row, reading, rule):
    """The moment of a reading in the gap or fold of the change of a row, or None."""
    if rule == "ahead":
        return reading - row[1]
    if rule == "behind":
        return reading - row[2]
    return None


def torn_word(zone, reading):
    """The word for a reading in a gap or in a fold of a zone, or None for any other reading."""
    return TORN_WORDS.get(len(zone.moments_of(reading)))


def is_torn_word(value):
    """Whether a value is the word for a gap or for a fold."""
    return isinstance(value, str) and value in FAULT_WORDS


def is_rule(value):
    """Whether a value is a rule by which readings are placed."""
    return isinstance(value, str) and value in RULES


def need_zone(value):
    """Refuse a value that is not a zone."""
    if not isinstance(value, Zone):
        raise NotZone(value)


def unlike_at(one, other):
    """A moment at which two zones have different offsets, or None."""
    need_zone(one)
    need_zone(other)
    moments = sorted([row[0] for row in one.rows + other.rows])
    # Offsets differ either ahead of all changes or from the moment of a change on.
    probes = [moments[0] - 1, *moments] if moments else [0]
    for moment in probes:
        if one.offset_at(moment) != other.offset_at(moment):
            return moment
    return None
