"""Each day at one time: where its readings are placed, and how far apart they can be in all zones of a kind."""

from everyzone.bounds import settle
from everyzone.errors import InvalidInteger, InvalidRule, InvalidWord
from everyzone.kinds import need_kind, zone_with
from everyzone.words import DAY_LENGTH, day_of, is_integer, is_whole, need_integer, need_time, reading_of, time_of
from everyzone.zones import Zone, is_rule, is_torn_word, need_zone

MOST_RESULTS = 200


def daily(zone, time, rule, day):
    """The moment of the reading with a day and a time by a rule, or None if placing fails."""
    need_daily(zone, time, rule, day)
    return zone.place(reading_of(day, time), rule)


def daily_list(zone, time, rule, day, many):
    """The results of daily for so many days, beginning with a day."""
    need_daily(zone, time, rule, day)
    if not is_integer(many, 0, MOST_RESULTS):
        raise InvalidInteger(many)
    return [zone.place(reading_of(day + later, time), rule) for later in range(many)]


def need_daily(zone, time, rule, day):
    """Refuse what is not a zone, a time, a rule and an integer."""
    need_zone(zone)
    need_time(time)
    need_rule(rule)
    need_integer(day)


def need_rule(value):
    """Refuse a value that is not a rule."""
    if not is_rule(value):
        raise InvalidRule(value)


def touched_days(zone, time):
    """The days on which the reading with a time is in a gap or in a fold: ascending tuples of a day and a word."""
    need_zone(zone)
    need_time(time)
    torn = [(low, high, "gap") for low, high in zone.gaps()] + [(low, high, "fold") for low, high in zone.folds()]
    # Gaps and folds are shorter than a day, so the time occurs in one at most once.
    days = [(day_of(high - 1 - time), low, word) for low, high, word in torn]
    return sorted([(day, word) for day, low, word in days if low <= reading_of(day, time)])


def spans(kind, rule, days):
    """The ascending list of what can lie between the readings with one time on two days, so many days apart."""
    need_spans(kind, rule, days)
    return sorted({span_over(jumps, days) for jumps in chains(kind) if has_room(kind, rule, days, jumps)})


def span_shown(kind, rule, days, span):
    """A zone, a time and a day for which just so many minutes lie between the two readings, or None."""
    need_spans(kind, rule, days)
    need_integer(span)
    for jumps in chains(kind):
        if span_over(jumps, days) == span and has_room(kind, rule, days, jumps):
            reading = last_ahead(rule, jumps)
            return near_changes(kind, jumps), time_of(reading), day_of(reading)
    return None


def need_spans(kind, rule, days):
    """Refuse what is not a kind, a rule and a number of days from 1 on."""
    need_kind(kind)
    need_rule(rule)
    need_days(days)


def need_days(value):
    """Refuse what is not a number of days from 1 on."""
    if not is_whole(value) or value < 1:
        raise InvalidInteger(value)


def chains(kind):
    """The tuples of the jumps that changes of a zone of a kind can have one after another, the short ones first."""
    found = [()]
    longest = [()]
    for count in range(kind.most):
        longest = [(*jumps, jump) for jumps in longest for jump in kind.jumps]
        found.extend(longest)
    return found


def span_over(jumps, days):
    """What lies between the readings on two days if just these jumps are placed between them."""
    return days * DAY_LENGTH - sum(jumps)


def near_changes(kind, jumps):
    """The zone with the first offset 0 and changes with these jumps, from the moment 0 on, as near as they can be."""
    return zone_with(0, [(kind.apart * index, jump) for index, jump in enumerate(jumps)])


def last_ahead(rule, jumps):
    """The last reading that a rule places by the offset 0 before all changes of near_changes."""
    if len(jumps) == 0:
        return 0
    return (max(jumps[0], 0) if rule == "ahead" else min(jumps[0], 0)) - 1


def first_behind(kind, rule, jumps):
    """The first reading that a rule places by the offset of the last change of near_changes."""
    # Readings in the gap or fold of the last change reach from its own offset to the one before it.
    own = sum(jumps)
    before = own - jumps[-1]
    reading = min(before, own) if rule == "behind" else max(before, own)
    return kind.apart * (len(jumps) - 1) + reading


def has_room(kind, rule, days, jumps):
    """Whether all changes with these jumps can be between two readings with one time, so many days apart."""
    if len(jumps) == 0:
        return True
    return last_ahead(rule, jumps) + days * DAY_LENGTH >= first_behind(kind, rule, jumps)


def most_touched(kind, days, word=None):
    """The greatest number of days on which the reading with a time can be in gaps or folds, with where it is so."""
    need_kind(kind)
    need_days(days)
    if word is not None and not is_torn_word(word):
        raise InvalidWord(word)
    for jumps in reversed(chains(kind)):
        if len(jumps) > 0 and all([is_torn_by(jump, word) for jump in jumps]):
            found = touching(kind, jumps, days)
            if found is not None:
                return len(jumps), *found
    return 0, Zone(0), 0, 0


def is_torn_by(jump, word):
    """Whether a jump makes a gap, if this is the word, or a fold; with None each jump does."""
    return word is None or (jump > 0) == (word == "gap")


def touching(kind, jumps, days):
    """A zone with changes with these jumps, a time and the first of so many days on which each change touches it."""
    word, values = settle(touching_bounds(kind, jumps, days_touched(kind, jumps, days)))
    if word == "ring":
        return None
    steps = [(values[f"c{index}"], jump) for index, jump in enumerate(jumps)]
    return zone_with(0, steps), time_of(values["reading"]), day_of(values["reading"])


def days_touched(kind, jumps, days):
    """The days, counted from 0, on which the changes touch a reading, if they can do so on any of so many days.

    The last day is as late as it can be, because the last change may always be some days later. The one in the middle
    is as early as it can be: a day is longer than what the second change tears, so a later day is of no use.
    """
    if len(jumps) < 3:
        return [0, days - 1][:len(jumps)]
    # The earliest day is that of a reading at the end of what the first change tears and the beginning of the second.
    ahead = max(jumps[0], 0) - 1
    behind = kind.apart + jumps[0] + min(jumps[1], 0)
    return [0, -((ahead - behind) // DAY_LENGTH), days - 1]


def touching_bounds(kind, jumps, later):
    """The bounds for a reading, so many days later each time, that the changes touch one after another."""
    bounds = []
    before = 0
    for index, jump in enumerate(jumps):
        name = f"c{index}"
        minutes = later[index] * DAY_LENGTH
        after = before + jump
        bounds.append((name, "reading", minutes - min(before, after)))
        bounds.append(("reading", name, max(before, after) - 1 - minutes))
        if index > 0:
            bounds.append((f"c{index - 1}", name, -kind.apart))
        before = after
    return bounds
