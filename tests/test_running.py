"""Programs that run in one zone [3, 4, 41, 51], and what holds for all arguments [6, 7, 8, 9, 10, 11]."""

import unittest

from everyzone.errors import InvalidInteger, NotProgram, NotStart, NotZone
from everyzone.kinds import Kind
from everyzone.programs import Program
from everyzone.running import met, run, values
from everyzone.zones import Zone
from tests.checking import LONG, NOT_INTEGERS, OTHERS, Checking, moments_by_hand, offset_by_hand

RULES = ("ahead", "behind", "strict")
CALLS = (run, values, met)

# A change to an offset that is greater by 60, and one to an offset that is less by 60; readings from 10060 up to,
# but without, 10120 are in the gap of the one and in the fold of the other.
GAP = Zone(60, [(10000, 120)])
FOLD = Zone(120, [(10000, 60)])

# First offsets and changes of zones in which programs are run minute by minute.
ZONES = [
    (0, []),
    (-1000, []),
    (60, [(1500, 120)]),
    (60, [(1500, 0)]),
    (0, [(0, 720), (1700, 0)]),
    (-30, [(-1440, -750), (100, -30), (1600, 690)]),
    (17, [(700, 20), (710, 16), (730, 18)]),
]

BODIES = [
    ("n = between now now",),
    ("m = add now 700", "r = read m", "n = time r"),
    ("m = add now -1441", "r = read m", "n = day r"),
    ("r = read now", "s = days r 1", "m = place s {}", "n = between now m"),
    ("r = read now", "s = days r -1", "m = place s {}", "n = between m now"),
    ("r = read now", "s = at r 01:20", "m = place s {}", "n = before now m"),
    ("r = read now", "s = add r 730", "m = place s {}", "t = read m", "n = between s t"),
    ("r = read now", "s = at r 12:00", "n = before r s"),
    ("r = read now", "s = at r 00:30", "t = days s 1", "m = place t {}", "u = read m", "n = day u"),
    ("r = read now", "k = place r {}", "s = days r 1", "m = place s {}", "t = at s 00:10", "o = place t {}",
     "n = between k o"),
]
TEXTS = ["\n".join(["start 00:00 23:59", *body, "return n n"]).replace("{}", rule) for body in BODIES for rule in RULES]


def day_program(rule, start="start 00:00 23:59"):
    """How many minutes lie between the start and the same time on the next day, by a rule."""
    return Program(f"{start}\nr = read now\ns = days r 1\nm = place s {rule}\nn = between now m\nreturn n")


class ByHand:
    """A zone whose readings are looked up in a table that was filled minute by minute."""

    def __init__(self, first, changes):
        self.first, self.changes = first, changes
        self.moments = moments_by_hand(first, changes, -9000, 9000)

    def read(self, moment):
        return moment + offset_by_hand(self.first, self.changes, moment)

    def place(self, reading, rule):
        """The moment or None, and the word of a gap or fold or None."""
        moments = self.moments[reading]
        if len(moments) == 1:
            return moments[0], None
        word = "fold"
        if not moments:
            word = "gap"
            # Behind the gap by the offset before the change, ahead of it by the offset of the change.
            moments = sorted(reading - offset for offset in self.offsets_around(reading))
            moments.reverse()
        return {"ahead": moments[0], "behind": moments[1], "strict": None}[rule], word

    def offsets_around(self, reading):
        """The offsets before and of the change whose gap a reading is in."""
        before = self.first
        for moment, offset in self.changes:
            if moment + before <= reading < moment + offset:
                return before, offset
            before = offset
        raise AssertionError(reading)

    def walk(self, text, start):
        """What run, values and met tell of a program and a start."""
        lines = [line.split() for line in text.split("\n")]
        known, touched, begin = {"now": start}, [], self.read(start)
        for index, (name, sign, word, x, *rest) in enumerate(lines[1:-1], 1):
            worth = known[x]
            if word == "place":
                placed, torn = self.place(worth, rest[0])
                touched += [(index, torn)] if torn else []
                if placed is None:
                    return ("fails", index), known, touched
                known[name] = placed
            elif word in ("between", "before"):
                other = known[rest[0]]
                known[name] = other - worth if word == "between" else other > worth
            else:
                known[name] = self.plain(word, worth, rest, begin)
        return [known[name] for name in lines[-1][1:]], known, touched

    def plain(self, word, worth, rest, begin):
        """The value of a line with one name that never fails."""
        if word == "read":
            return self.read(worth)
        if word == "add":
            return worth + int(rest[0])
        if word == "days":
            return worth + 24 * 60 * int(rest[0])
        if word == "at":
            return worth - worth % 1440 + 60 * int(rest[0][:2]) + int(rest[0][3:])
        return worth % 1440 if word == "time" else worth // 1440 - begin // 1440


class Examples(Checking):
    def test_example_of_the_document(self):
        program = day_program("ahead")
        told = [run(program, GAP, 9000), run(program, GAP, 8000), run(program, GAP, 8600), met(program, GAP, 8600)]
        self.assertEqual(told, [[1380], [1440], [1440], [(3, "gap")]])


class Results(Checking):
    def check(self, program, zone, start, answers, touched, known=None):
        """What the three functions tell."""
        self.assertEqual(run(program, zone, start), answers)
        self.assertEqual([type(item) for item in run(program, zone, start)], [type(item) for item in answers])
        self.assertEqual(met(program, zone, start), touched)
        if known is not None:
            self.assertEqual(values(program, zone, start), known)

    def test_a_day_by_hand_with_a_gap(self):
        told = {8559: (1440, 1440), 8560: (1440, 1380), 8619: (1440, 1380), 8620: (1380, 1380), 9999: (1380, 1380),
                10000: (1440, 1440), 10001: (1440, 1440)}
        for start, (ahead, behind) in told.items():
            touched = [(3, "gap")] if 8560 <= start <= 8619 else []
            self.check(day_program("ahead"), GAP, start, [ahead], touched)
            self.check(day_program("behind"), GAP, start, [behind], touched)
            self.check(day_program("strict"), GAP, start, ("fails", 3) if touched else [ahead], touched)

    def test_a_day_by_hand_with_a_fold(self):
        told = {8499: (1440, 1440), 8500: (1440, 1500), 8559: (1440, 1500), 8560: (1500, 1500), 9999: (1500, 1500),
                10000: (1440, 1440), 10001: (1440, 1440)}
        for start, (ahead, behind) in told.items():
            touched = [(3, "fold")] if 8500 <= start <= 8559 else []
            self.check(day_program("ahead"), FOLD, start, [ahead], touched)
            self.check(day_program("behind"), FOLD, start, [behind], touched)
            self.check(day_program("strict"), FOLD, start, ("fails", 3) if touched else [ahead], touched)

    def test_a_day_by_hand_without_a_change(self):
        for first in (0, -75, LONG):
            for start in (-LONG, -1, 0, 5, LONG):
                for rule in RULES:
                    known = {"now": start, "r": start + first, "s": start + first + 1440, "m": start + 1440, "n": 1440}
                    self.check(day_program(rule), Zone(first), start, [1440], [], known)

    def test_the_start_read_and_placed_beside_a_change(self):
        for rule in RULES:
            program = Program(f"start 00:00 23:59\nr = read now\nm = place r {rule}\nn = between now m\nt = time r\nreturn n t")
            for start, time in ((9999, 1419), (10000, 40), (10001, 41)):
                self.check(program, GAP, start, [0, time], [])
            for start, ahead, behind in ((9939, 0, 0), (9940, 0, 60), (9999, 0, 60), (10000, -60, 0), (10059, -60, 0),
                                         (10060, 0, 0)):
                touched = [(2, "fold")] if 9940 <= start < 10060 else []
                reading = start + (120 if start < 10000 else 60)
                fails = rule == "strict" and touched
                answers = ("fails", 2) if fails else [behind if rule == "behind" else ahead, reading % 1440]
                self.check(program, FOLD, start, answers, touched)

    def test_each_line_by_hand(self):
        text = "start 00:00 23:59\na = add now 90\nb = read a\nc = at b 23:59\nd = days c -2\ne = add d -100\n"
        program = Program(text + "f = day e\ng = time e\nh = before c b\nreturn f g h f")
        known = {"now": 9990, "a": 10080, "b": 10200, "c": 11519, "d": 8639, "e": 8539, "f": -1, "g": 1339, "h": False}
        self.check(program, GAP, 9990, [-1, 1339, False, -1], [], known)
        known = {"now": 5, "a": 95, "b": 155, "c": 1439, "d": -1441, "e": -1541, "f": -2, "g": 1339, "h": False}
        self.check(program, GAP, 5, [-2, 1339, False, -2], [], known)

    def test_between_and_before(self):
        text = "start 00:00 23:59\na = add now 7\nn = between now a\nk = between a now\nb = before now a\nc = before a now\n"
        program = Program(text + "d = before a a\nz = between a a\nreturn n k b c")
        known = {"now": 3, "a": 10, "n": 7, "k": -7, "b": True, "c": False, "d": False, "z": 0}
        self.check(program, Zone(0), 3, [7, -7, True, False], [], known)
        text = "start 00:00 23:59\nr = read now\ns = add r -1\nn = between r s\nb = before r s\nc = before s r\nd = before r r\n"
        self.check(Program(text + "return n b c d"), Zone(0), 3, [-1, False, True, False], [])
        text = "start 00:00 23:59\na = add now 10\nb = read now\nc = read a\nn = before c b\nk = between b c\nreturn n k"
        self.check(Program(text), FOLD, 9995, [True, -50], [])

    def test_days_below_zero(self):
        text = "start 00:00 23:59\nr = read now\ns = at r 01:00\nt = days s -3\nd = day t\ne = day r\nf = time r\nreturn d e f"
        known = {"now": 0, "r": -5000, "s": -5700, "t": -10020, "d": -3, "e": 0, "f": 760}
        self.check(Program(text), Zone(-5000), 0, [-3, 0, 760], [], known)
        for start, reading, time, day in ((-1, -1, 1439, -1440), (-1440, -1440, 0, -1440), (-1441, -1441, 1439, -2880),
                                          (0, 0, 0, 0), (1440, 1440, 0, 1440)):
            known = {"now": start, "r": reading, "s": day + 60, "t": day - 4260, "d": -3, "e": 0, "f": time}
            self.check(Program(text), Zone(0), start, [-3, 0, time], [], known)

    def test_the_day_is_counted_from_the_day_of_the_start(self):
        text = "start 00:00 23:59\na = add now -60\nr = read a\nn = day r\nb = add now 60\ns = read b\nk = day s\nreturn n k"
        for first in (0, 1440, -1440 * 10 ** 20):
            for start, told in ((0, [-1, 0]), (59, [-1, 0]), (60, [0, 0]), (1379, [0, 0]), (1380, [0, 1]), (1439, [0, 1]),
                                (1440, [-1, 0])):
                self.check(Program(text), Zone(first), start, told, [])

    def test_truths_are_truths(self):
        program = Program("start 00:00 23:59\na = add now 1\nb = before now a\nc = before a now\nn = between now a\nreturn b c n")
        told = run(program, Zone(0), 0)
        self.assertIs(told[0], True)
        self.assertIs(told[1], False)
        self.assertIs(type(told[2]), int)

    def test_several_places_in_gaps_and_folds(self):
        zone = Zone(60, [(10000, 120), (20000, 60)])
        text = "start 00:00 23:59\nr = read now\na = place r {}\ns = add r 60\nb = place s {}\nt = add r 10060\nc = place t {}\n"
        text += "n = between a b\nreturn n"
        self.check(Program(text.format("ahead", "ahead", "ahead")), zone, 10000, [60], [])
        self.check(Program(text.format("ahead", "ahead", "behind")), zone, 9999, [60], [(4, "gap"), (6, "fold")])
        self.check(Program(text.format("ahead", "behind", "ahead")), zone, 9999, [0], [(4, "gap"), (6, "fold")])
        self.check(Program(text.format("strict", "ahead", "strict")), zone, 9999, ("fails", 6), [(4, "gap"), (6, "fold")])
        self.check(Program(text.format("strict", "strict", "strict")), zone, 9999, ("fails", 4), [(4, "gap")])
        self.check(Program(text.format("ahead", "ahead", "ahead")), zone, 19999, [120], [(2, "fold")])
        self.check(Program(text.format("behind", "ahead", "ahead")), zone, 19999, [60], [(2, "fold")])
        self.check(Program(text.format("strict", "ahead", "ahead")), zone, 19999, ("fails", 2), [(2, "fold")])

    def test_values_up_to_the_line_that_fails(self):
        text = "start 00:00 23:59\nr = read now\nb = before r r\ns = days r 1\nm = place s strict\nn = between now m\nreturn n"
        known = {"now": 8600, "r": 8660, "b": False, "s": 10100}
        self.check(Program(text), GAP, 8600, ("fails", 4), [(4, "gap")], known)
        known = {"now": 8640, "r": 8700, "b": False, "s": 10140, "m": 10020, "n": 1380}
        self.check(Program(text), GAP, 8640, [1380], [], known)
        text = "start 00:00 23:59\nr = read now\nm = place r strict\nk = place r strict\nn = between m k\nreturn n"
        self.check(Program(text), FOLD, 9990, ("fails", 2), [(2, "fold")], {"now": 9990, "r": 10110})

    def test_minute_by_minute(self):
        seen = set()
        for first, changes in ZONES:
            zone, by_hand = Zone(first, changes), ByHand(first, changes)
            for text in TEXTS:
                program = Program(text)
                for start in range(-2200, 2200, 13):
                    answers, known, touched = by_hand.walk(text, start)
                    told = [run(program, zone, start), values(program, zone, start), met(program, zone, start)]
                    self.assertEqual(told, [answers, known, touched], (first, changes, text, start))
                    seen.update((word, answers[0] == "fails") for index, word in touched)
        self.assertEqual(seen, {("gap", True), ("gap", False), ("fold", True), ("fold", False)})

    def test_new_lists_and_dicts(self):
        for program, start in ((day_program("ahead"), 8600), (day_program("strict"), 8600), (day_program("strict"), 0)):
            for call in CALLS:
                self.returns_new_lists(lambda: call(program, GAP, start))
            self.assertIs(type(values(program, GAP, start)), dict)
            self.assertIs(type(met(program, GAP, start)), list)
        self.assertIs(type(run(day_program("ahead"), GAP, 8600)), list)
        self.assertIs(type(run(day_program("strict"), GAP, 8600)), tuple)
        self.assertEqual({type(item) for item in met(day_program("ahead"), GAP, 8600)}, {tuple})

    def test_arguments_stay(self):
        program, zone = day_program("behind"), Zone(60, [(10000, 120)])
        for call in CALLS:
            call(program, zone, 8600)
        self.assertEqual((program, str(program)), (day_program("behind"), str(day_program("behind"))))
        self.assertEqual((zone, zone.changes()), (GAP, [(10000, 120)]))

    def test_by_name(self):
        for call in CALLS:
            told = call(start=8600, zone=GAP, program=day_program("ahead"))
            self.assertEqual(told, call(day_program("ahead"), GAP, 8600))


class Starts(Checking):
    def test_beside_low_and_high(self):
        for first in (0, 60, -75, 1440 * 10 ** 20 + 7):
            for low, high, start in ((480, 1020, "start 08:00 17:00"), (0, 0, "start 00:00 00:00"),
                                     (1439, 1439, "start 23:59 23:59"), (0, 1438, "start 00:00 23:58")):
                program = day_program("ahead", start)
                for day in (-1440, 0, 1440 * 9):
                    for time in (low, (low + high) // 2, high):
                        self.assertEqual(run(program, Zone(first), day + time - first), [1440])
                    for time in (low - 1, high + 1):
                        for call in CALLS:
                            moment = day + time - first
                            self.refused(NotStart, moment, call, program, Zone(first), moment)

    def test_the_reading_at_the_start_counts(self):
        program = day_program("ahead", "start 02:00 02:00")
        zone = Zone(0, [(120, 60)])
        self.refused(NotStart, 120, run, program, zone, 120)
        self.refused(NotStart, 60, run, program, zone, 60)
        self.refused(NotStart, 119, run, program, zone, 119)
        self.assertEqual(run(program, zone, 1500), [1440])
        self.assertEqual(run(program, zone, -1320), [1440])
        zone = Zone(60, [(61, 0)])
        for start in (60, 120):
            self.assertEqual(values(program, zone, start)["r"], 120)

    def test_no_bounds(self):
        for start in range(-1500, 3000, 7):
            self.assertEqual(run(day_program("ahead"), Zone(0), start), [1440])


class Refusals(Checking):
    def test_wrong_programs(self):
        good = day_program("ahead")
        for value in ["", "now", str(good), 0, *OTHERS, [good], (good,), Kind([60], 5000), NotProgram(good)]:
            for call in CALLS:
                self.refused(NotProgram, value, call, value, GAP, 0)

    def test_wrong_zones(self):
        good = day_program("ahead")
        for value in ["", "zone", 0, 60, *OTHERS, [GAP], (60, []), good, Kind([60], 5000), NotZone(GAP)]:
            if not isinstance(value, Zone):
                for call in CALLS:
                    self.refused(NotZone, value, call, good, value, 0)

    def test_wrong_starts(self):
        program = day_program("ahead", "start 00:00 00:01")
        for value in NOT_INTEGERS + [program]:
            for call in CALLS:
                self.refused(InvalidInteger, value, call, program, Zone(0), value)

    def test_several_wrong_arguments(self):
        program, zone, start, good = ["p"], ["z"], ["s"], day_program("ahead", "start 08:00 09:00")
        for call in CALLS:
            self.refused(NotProgram, program, call, program, zone, start)
            self.refused(NotProgram, program, call, start=start, zone=zone, program=program)
            self.refused(NotProgram, zone, call, zone, good, 0)
            self.refused(NotZone, zone, call, good, zone, start)
            self.refused(NotZone, zone, call, good, zone, 0)
            self.refused(InvalidInteger, start, call, good, GAP, start)
            self.refused(NotStart, 0, call, good, GAP, 0)


class Shifts(Checking):
    def pairs(self):
        """Programs, zones and starts."""
        for first, changes in ZONES:
            for text in TEXTS:
                for start in range(-1500, 1800, 101):
                    yield Program(text), Zone(first, changes), start

    def test_answers_stay_if_moments_are_moved_and_offsets_lowered(self):
        for program, zone, start in self.pairs():
            for minutes in (-1441, 7, 10 ** 20):
                other = zone.moved(minutes).raised(-minutes)
                self.assertEqual(run(program, other, start + minutes), run(program, zone, start))
                self.assertEqual(met(program, other, start + minutes), met(program, zone, start))
                told = values(program, zone, start)
                for name in told:
                    told[name] += minutes if program.kind_of(name) == "moment" else 0
                self.assertEqual(values(program, other, start + minutes), told)

    def test_answers_stay_if_offsets_are_raised_by_days(self):
        for program, zone, start in self.pairs():
            for days in (-3, 1, 10 ** 20):
                other = zone.raised(days * 1440)
                self.assertEqual(run(program, other, start), run(program, zone, start))
                self.assertEqual(met(program, other, start), met(program, zone, start))
                told = values(program, zone, start)
                for name in told:
                    told[name] += days * 1440 if program.kind_of(name) == "reading" else 0
                self.assertEqual(values(program, other, start), told)

    def test_starts_stay_as_well(self):
        program = day_program("ahead", "start 02:00 02:59")
        for start in range(7000, 11500, 17):
            for other, moment in ((GAP.moved(77).raised(-77), start + 77), (GAP.raised(1440 * 7), start)):
                if 120 <= GAP.read(start) % 1440 <= 179:
                    self.assertEqual(run(program, other, moment), run(program, GAP, start))
                else:
                    self.refused(NotStart, moment, run, program, other, moment)


if __name__ == "__main__":
    unittest.main()
