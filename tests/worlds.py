"""Programs, kinds, and many zones of them, with starts, for tests that look at what holds in all zones of a kind."""

import itertools
import random

from everyzone.kinds import Kind
from everyzone.programs import Program
from everyzone.running import values
from everyzone.zones import Zone

RULES = ("ahead", "behind", "strict")
NEXTS = ["next1", "next2", "next3"]
LASTS = ["last1", "last2", "last3"]


def clock(time):
    """A time as a string."""
    return f"{time // 60:02d}:{time % 60:02d}"


def day_text(rule, start="start 00:00 23:59", days=1):
    """A program for how many minutes lie between the start and the same time some days later, by a rule."""
    return f"{start}\nr = read now\ns = days r {days}\nm = place s {rule}\nn = between now m\nreturn n"


def zone_around(steps, start, time):
    """The zone with changes that are told by moments and jumps, with the reading `time` at the start."""
    offset = time - start - sum(jump for moment, jump in steps if moment <= start)
    changes, after = [], offset
    for moment, jump in steps:
        after += jump
        changes.append((moment, after))
    return Zone(offset, changes)


def all_steps(kind, low, high):
    """The changes, as lists of tuples of a moment and a jump, of all zones of a kind that change from low to high only."""
    for many in range(kind.most + 1):
        for moments in itertools.combinations(range(low, high + 1), many):
            if all(b - a >= kind.apart for a, b in zip(moments, moments[1:])):
                for jumps in itertools.product(kind.jumps, repeat=many):
                    yield list(zip(moments, jumps))


def moments_that_matter(program, start, time):
    """The moments that values come to in zones that do not change, once or after each of some hours."""
    found = [start, start - time]
    for name, worth in values(program, Zone(time - start), start).items():
        kind = program.kind_of(name)
        if kind in ("moment", "reading"):
            found.append(worth if kind == "moment" else worth - time + start)
    return found


def random_steps(rng, kind, moments):
    """The changes of some zone of a kind, near or at some moments, a jump beside them or the least time apart."""
    jumps = [rng.choice(kind.jumps) for count in range(rng.randint(0, kind.most))]
    near = [0, 0, 1, -1, *kind.jumps, *[-jump for jump in kind.jumps], kind.jumps[0] + 1, 1 - kind.jumps[-1]]
    found = []
    for jump in jumps:
        moment = rng.choice(moments) + rng.choice([*near, rng.randint(-1500, 1500)])
        if found and (rng.random() < 0.4 or abs(moment - found[0]) < kind.apart or found[0] < moment < found[-1]):
            moment = rng.choice([found[0] - kind.apart, found[-1] + kind.apart])
        if found and found[0] < moment < found[-1] + kind.apart:
            moment = found[-1] + kind.apart
        if found and found[0] - kind.apart < moment < found[0]:
            moment = found[0] - kind.apart
        found = sorted([*found, moment])
    return list(zip(found, jumps))


def random_kind(rng):
    """A kind with one to four jumps and none to three changes, often with as little time between them as there can be."""
    jumps = rng.sample([60, -60, 30, -30, 1, -1, 720, -720, rng.randint(2, 29), -rng.randint(2, 29)], rng.randint(1, 4))
    least = 2 * max(abs(jump) for jump in jumps) + 1
    return Kind(jumps, rng.choice([least, least, least + rng.randint(0, 3000), least + 20000]), rng.randint(0, 3))


class Writer:
    """Writes programs at random, in which each form of a line occurs."""

    def __init__(self, rng):
        self.rng = rng

    def text(self, lines):
        """The text of a program with so many lines between the first and the last one."""
        kinds, rows = {"now": "moment"}, []
        while len(rows) < lines:
            words, kind = self.line(kinds)
            last = len(rows) == lines - 1 and not {"number", "truth"} & {*kinds.values(), kind}
            if words is not None and not last:
                kinds[f"v{len(rows)}"] = kind
                rows.append(f"v{len(rows)} = {words}")
        answers = [name for name, kind in kinds.items() if kind in ("number", "truth")]
        told = [self.rng.choice(answers) for count in range(self.rng.randint(1, 4))]
        low = self.rng.choice([0, 0, 0, self.rng.randint(0, 1439)])
        high = self.rng.choice([1439, 1439, low, self.rng.randint(low, 1439)])
        return "\n".join([f"start {clock(low)} {clock(high)}", *rows, "return " + " ".join(told)])

    def line(self, kinds):
        """The words of a line behind `=` and the kind of its value, or None and None."""
        rng = self.rng
        word = rng.choice("read place place place add days days at at time day between before".split())
        takes = {"read": ["moment"], "add": ["moment", "reading"], "between": ["moment", "reading"]}
        takes["before"] = takes["between"]
        names = [name for name, kind in kinds.items() if kind in takes.get(word, ["reading"])]
        if not names:
            return None, None
        x = rng.choice(names)
        gives = {"read": "reading", "place": "moment", "before": "truth", "add": kinds[x], "days": "reading", "at": "reading"}
        y = rng.choice([name for name, kind in kinds.items() if kind == kinds[x]])
        more = {
            "place": [rng.choice(RULES)], "at": [clock(rng.randint(0, 1439))], "between": [y], "before": [y],
            "add": [str(rng.choice([60, -60, 720, -1440, rng.randint(-3000, 3000), rng.randint(-100000, 100000)]))],
            "days": [str(rng.choice([1, -1, 2, rng.randint(-60, 60)]))],
        }
        return " ".join([word, x, *more.get(word, [])]), gives.get(word, "number")


def random_worlds(seed, many):
    """Tuples of a program and a kind, with a random source for what else is chosen."""
    rng = random.Random(seed)
    for count in range(many):
        yield rng, Program(Writer(rng).text(count % 8 + 1)), random_kind(rng)


def random_place(rng, program, kind):
    """A zone of a kind and a start for a program."""
    start = rng.choice([0, rng.randint(-10 ** 6, 10 ** 6)])
    time = rng.choice([program.low, program.high, rng.randint(program.low, program.high)])
    steps = random_steps(rng, kind, moments_that_matter(program, start, time))
    return zone_around(steps, start, time).raised(1440 * rng.randint(-2, 2)), start


def named_moments(zone, start):
    """By [71]: the moments of the names that there are, and the jumps of the changes among them."""
    moments, jumps, before = {"start": start, "midnight": start - zone.read(start) % 1440}, {}, zone.first
    rows = []
    for moment, offset in zone.changes():
        rows.append((moment, offset - before))
        before = offset
    behind = [row for row in rows if row[0] > start]
    ahead = [row for row in rows if row[0] <= start][::-1]
    for names, found in ((NEXTS, behind), (LASTS, ahead)):
        for name, (moment, jump) in zip(names, found):
            moments[name], jumps[name] = moment, jump
    return moments, jumps


def bound_holds_by_hand(bound, moments):
    """Whether a case bound holds, by [71]."""
    x, y, n = bound
    if x not in moments and y not in moments:
        return False
    if x not in moments:
        return x in LASTS
    if y not in moments:
        return y in NEXTS
    return moments[x] - moments[y] <= n


def meets_by_hand(case, moments, jumps):
    """Whether a case is met, by [72], where there are these moments and jumps."""
    return (all(jumps.get(name) == jump for name, jump in case[0].items())
            and all(bound_holds_by_hand(bound, moments) for bound in case[1]))


def answers_by_hand(case, time):
    """The answers of a case at a time, by [72]."""
    if case[2][0] == "fails":
        return case[2]
    return [item if isinstance(item, bool) else item[0] * time + item[1] for item in case[2]]


def exact(value):
    """A value in which truths and integers that are equal for Python are told apart."""
    if isinstance(value, (list, tuple)):
        return type(value), [exact(item) for item in value]
    return type(value), value
