"""What several files of tests use: values of every sort, readings found by hand, and checks of what is returned."""

import unittest

from everyzone.errors import NotZone
from everyzone.zones import Zone

LONG = 10 ** 30 - 1

# Values of every sort but integers and strings.
OTHERS = [
    None, True, False, (), (1,), [], [1], ["now"], {}, {1: 1}, {"now": 1}, [[[[[1]]]]], Zone(0), Zone(1, [(5, 6)]),
    NotZone(1), list(range(300)),
]

NOT_INTEGERS = ["", "1", "60", "now", *OTHERS]


def offset_by_hand(first, changes, moment):
    """The offset of the last change that is not behind a moment."""
    return ([first] + [offset for change, offset in changes if change <= moment])[-1]


def moments_by_hand(first, changes, low, high):
    """The moments of each reading from low to high, found minute by minute."""
    found = {reading: [] for reading in range(low, high)}
    spread = max([abs(first)] + [abs(offset) for moment, offset in changes])
    for moment in range(low - spread, high + spread):
        reading = moment + offset_by_hand(first, changes, moment)
        if low <= reading < high:
            found[reading].append(moment)
    return found


class Checking(unittest.TestCase):
    def refused(self, error, value, call, *args, **named):
        """The call raises just this error, whose one field is the very object."""
        with self.assertRaises((ValueError, KeyError, LookupError)) as caught:
            call(*args, **named)
        self.assertIs(type(caught.exception), error)
        fields = list(vars(caught.exception).values())
        self.assertEqual(len(fields), 1)
        self.assertIs(fields[0], value)

    def refused_in_order(self, call, good, wrong):
        """Each wrong argument is refused alone, and also with all later ones wrong, by position and by name.

        `good` are the arguments by name, `wrong` tuples of a name, an error and values, in the order of the checks.
        """
        for place, (name, error, values) in enumerate(wrong):
            rest = {later: others[0] for later, other, others in wrong[place + 1:] if later != name}
            for value in values:
                for named in ({**good, name: value}, {**good, **rest, name: value}):
                    self.refused(error, value, lambda: call(*named.values()))
                    self.refused(error, value, lambda: call(**named))
                    self.refused(error, value, lambda: call(**dict(reversed(named.items()))))

    def returns_new_lists(self, call):
        """Lists and dicts that the call returns may be modified, and inner ones too, without changing what it tells."""
        told, other = call(), call()
        kept = repr(told)
        parts = containers(told) + containers(other)
        self.assertEqual(len({id(part) for part in parts}), len(parts))
        spoil(told)
        self.assertEqual(repr(call()), kept)


def containers(value):
    """All lists and dicts within a value, with itself if it is one."""
    found = [value] if isinstance(value, (list, dict)) else []
    inner = value.values() if isinstance(value, dict) else value if isinstance(value, (list, tuple)) else []
    for item in inner:
        found += containers(item)
    return found


def spoil(value):
    """Empty all lists and dicts within a value."""
    for part in containers(value):
        part.clear()
