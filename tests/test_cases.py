"""Tables of cases [71, 72, 73, 74], and what holds for all arguments [6, 7, 8, 9, 10, 11]."""

import unittest

from everyzone.cases import answers_in, cases, is_case, meets
from everyzone.errors import InvalidCase, InvalidInteger, InvalidTime, NotKind, NotProgram, NotZone
from everyzone.kinds import Kind
from everyzone.programs import Program
from everyzone.running import run
from everyzone.zones import Zone
from tests.checking import LONG, NOT_INTEGERS, OTHERS, Checking, containers
from tests.worlds import (
    LASTS, NEXTS, RULES, all_steps, answers_by_hand, bound_holds_by_hand, clock, day_text, exact, meets_by_hand,
    named_moments, random_place, random_worlds, zone_around,
)

NAMES = [*NEXTS, *LASTS, "start", "midnight"]
NOT_OBJECTS = ["", "zone", 0, 60, *[value for value in OTHERS if not isinstance(value, Zone)]]
ZONE = Zone(60, [(10000, 120), (20000, 60), (30000, 90), (40000, 60), (50000, 70), (60000, 60), (70000, 59), (80000, 60)])

# Short ways, so that every zone that changes near the start can be looked at.
SHORT_TEXTS = [
    "start 00:00 00:03\nr = read now\ns = add r 4\nm = place s {}\nn = between now m\nt = time s\nreturn n t",
    "start 00:00 00:02\nr = read now\ns = at r 00:01\nm = place s {}\nb = before now m\nn = between m now\nreturn b n",
    "start 00:01 00:01\nm = add now 5\nr = read m\ns = add r -6\nk = place s {}\nt = read k\nn = between r t\nreturn n n",
    "start 23:58 23:59\nr = read now\ns = add r 3\nd = day s\nm = place s {}\nn = between now m\nreturn d n",
    "start 00:02 00:04\nr = read now\nm = place r {}\nk = add m -3\ns = read k\nn = between s r\nreturn n",
    "start 00:00 00:05\nr = read now\ns = at r 00:03\nb = before r s\nk = between r s\nt = time r\nreturn b k t b",
]
SHORT_KINDS = [Kind([2, -1], 5, 2), Kind([-2], 5, 3), Kind([1], 3, 1), Kind([2, -2, 1, -1], 6, 2), Kind([3], 7, 0)]


def plain_case(**parts):
    """A case with these parts and others that are right."""
    told = {"jumps": {}, "bounds": [], "answers": ((0, 5),), "example": (Zone(0), 0), **parts}
    return told["jumps"], told["bounds"], told["answers"], told["example"]


class Tables(Checking):
    def check_place(self, found, program, zone, start):
        """Just one case is met, and its answers are those of run."""
        moments, jumps = named_moments(zone, start)
        met = [case for case in found if meets_by_hand(case, moments, jumps)]
        told = (str(program), zone.first, zone.changes(), start)
        self.assertEqual(len(met), 1, told)
        time = zone.read(start) % 1440
        self.assertEqual(exact(answers_by_hand(met[0], time)), exact(run(program, zone, start)), told)
        self.assertEqual(exact(answers_in(met[0], time)), exact(run(program, zone, start)), told)
        self.assertTrue(meets(met[0], zone, start), told)

    def check_form(self, case):
        """By the words of [72]; the kind of the zone and what it meets is looked at elsewhere."""
        self.assertEqual([type(part) for part in case], [dict, list, tuple, tuple])
        jumps, bounds, answers, example = case
        self.assertTrue(set(jumps) <= set(NEXTS + LASTS) and {type(jump) for jump in jumps.values()} <= {int})
        self.assertLessEqual(len(bounds), 200)
        for bound in bounds:
            x, y, n = bound
            self.assertTrue(type(bound) is tuple and {x, y} <= set(NAMES) and x != y and type(n) is int, bound)
        for answer in answers if answers[0] != "fails" else []:
            if not isinstance(answer, bool):
                self.assertTrue(type(answer) is tuple and answer[0] in (-1, 0, 1) and type(answer[1]) is int, answer)
        if answers[0] == "fails":
            self.assertTrue(len(answers) == 2 and type(answers[1]) is int and answers[1] >= 1, answers)
        self.assertTrue(is_case(case))

    def check_table(self, found, program, kind):
        """The forms of the cases, and their examples."""
        for case in found:
            self.check_form(case)
            zone, start = case[3]
            self.assertTrue(kind.has(zone), case)
            self.assertTrue(program.low <= zone.read(start) % 1440 <= program.high, case)
        for case in found[::len(found) // 20 + 1]:
            zone, start = case[3]
            moments, jumps = named_moments(zone, start)
            self.assertEqual([other for other in found if meets_by_hand(other, moments, jumps)], [case])
            self.check_place(found, program, zone, start)

    def test_example_of_the_document(self):
        program = Program(day_text("strict"))
        found = cases(program, Kind([60], 5000))
        told = sorted({str(answers) for jumps, bounds, answers, example in found})
        self.assertEqual(told, ["('fails', 3)", "((0, 1380),)", "((0, 1440),)"])

    def test_zones_and_starts_at_random(self):
        for rng, program, kind in random_worlds(73, 700):
            found = cases(program, kind)
            self.check_table(found, program, kind)
            for count in range(12):
                zone, start = random_place(rng, program, kind)
                self.assertTrue(kind.has(zone))
                self.check_place(found, program, zone, start)

    def test_all_zones_that_change_near_the_start(self):
        for text in SHORT_TEXTS:
            for rule in RULES:
                program = Program(text.format(rule))
                for kind in SHORT_KINDS:
                    found = cases(program, kind)
                    self.check_table(found, program, kind)
                    for place, steps in enumerate(all_steps(kind, -9, 10)):
                        time = program.low + place % (program.high - program.low + 1)
                        self.check_place(found, program, zone_around(steps, 0, time), 0)

    def test_a_change_minute_by_minute(self):
        for rule in RULES:
            program = Program(day_text(rule, "start 01:00 03:00"))
            for jump in (60, -60, 720, -720, 1, -1):
                kind = Kind([jump], 5000, 1)
                found = cases(program, kind)
                self.check_table(found, program, kind)
                for moment in range(-800, 2300, 3):
                    for time in (60, 121, 180):
                        self.check_place(found, program, zone_around([(moment, jump)], 0, time), 0)

    def test_the_example_program_has_few_cases(self):
        found = cases(Program(day_text("strict")), Kind([60], 5000))
        self.assertEqual(len(found), len({str(case) for case in found}))
        self.assertLess(len(found), 20)
        self.assertEqual(len(cases(Program(day_text("ahead")), Kind([60], 5000, 0))), 1)

    def test_rings_of_bounds_stay_short_in_long_programs(self):
        rows = ["a = read now", "b = at a 03:00", "c = place b strict", "d = days a 2", "e = place d strict",
                "f = at d 04:00", "g = place f strict", "h = between e g"]
        kind = Kind([60, -60, 30, -30], 121, 3)
        found = cases(Program("\n".join(["start 00:00 23:59", *rows, "return h h h h"])), kind)
        self.assertLessEqual(max(len(case[1]) for case in found), 200)
        self.assertGreater(len(found), 100)

    def test_least_times_of_thirty_digits(self):
        for rule in RULES:
            program = Program(day_text(rule))
            kind = Kind([60, -60], LONG, 3)
            found = cases(program, kind)
            self.check_table(found, program, kind)
            for moment in (LONG, LONG + 1380, LONG + 1381, LONG - 1):
                for time in (0, 700, 1439):
                    steps = [(moment - LONG, 60), (moment, -60), (moment + LONG, 60)]
                    for start in (0, moment - 1440, moment - 1439, moment - 1441, moment, LONG * 3):
                        self.check_place(found, program, zone_around(steps, start, time), start)

    def test_called_twice(self):
        for rng, program, kind in random_worlds(9, 40):
            one, other = cases(program, kind), cases(Program(str(program)), Kind(kind.jumps[::-1], kind.apart, kind.most))
            self.assertEqual(repr([case[:3] for case in one]), repr([case[:3] for case in other]))
            self.assertEqual([case[3] for case in one], [case[3] for case in other])
            parts = containers(one) + containers(other)
            self.assertEqual(len({id(part) for part in parts}), len(parts))

    def test_told_cases_may_be_changed(self):
        program, kind = Program(day_text("strict")), Kind([60, -60], 5000)
        kept = [case[:3] for case in cases(program, kind)]
        text = repr(kept)
        self.returns_new_lists(lambda: [case[:3] for case in cases(program, kind)])
        self.assertEqual(repr([case[:3] for case in cases(program, kind)]), text)
        self.assertEqual((program, kind), (Program(day_text("strict")), Kind([60, -60], 5000)))

    def test_by_name(self):
        program, kind = Program(day_text("strict")), Kind([60, -60], 5000)
        self.assertEqual(cases(kind=kind, program=program), cases(program, kind))

    def test_wrong_arguments(self):
        good = {"program": Program(day_text("strict")), "kind": Kind([60], 5000)}
        wrong = [("program", NotProgram, [*NOT_OBJECTS, good["kind"], str(good["program"])]),
                 ("kind", NotKind, [*NOT_OBJECTS, good["program"], Zone(0)])]
        self.refused_in_order(cases, good, wrong)


class Meeting(Checking):
    def test_single_bounds(self):
        for start in (9999, 10000, 10001, 0, 29999, 30000, 45000, 90000):
            for zone in (ZONE, ZONE.until(20000), ZONE.until(10000), ZONE.until(0), ZONE.since(30000)):
                moments, jumps = named_moments(zone, start)
                for x in NAMES:
                    for y in NAMES:
                        if x != y:
                            far = moments.get(x, 5) - moments.get(y, 7)
                            for n in (far, far - 1, far + 1, 0, LONG, -LONG):
                                told = meets(plain_case(bounds=[(x, y, n)]), zone, start)
                                self.assertIs(told, bound_holds_by_hand((x, y, n), moments), (x, y, n, start))

    def test_changes_that_are_not_there(self):
        for n in (LONG, 0, -LONG):
            told = {
                ("next1", "start"): False, ("start", "next1"): True, ("last1", "start"): True, ("start", "last1"): False,
                ("next1", "next2"): False, ("next1", "last1"): False, ("last1", "next1"): False, ("last2", "last1"): False,
                ("midnight", "last3"): False, ("last3", "midnight"): True, ("next3", "midnight"): False,
                ("midnight", "next3"): True,
            }
            for (x, y), holds in told.items():
                self.assertIs(meets(plain_case(bounds=[(x, y, n)]), Zone(0), 0), holds, (x, y, n))
        zone = Zone(0, [(100, 60)])
        for x, y, holds in (("next1", "next2", True), ("next2", "next1", False), ("last1", "next1", True),
                            ("next1", "last1", False)):
            self.assertIs(meets(plain_case(bounds=[(x, y, -LONG)]), zone, 99), holds)

    def test_a_change_at_the_start_is_the_last_one(self):
        for start, name in ((99, "next1"), (100, "last1"), (101, "last1")):
            zone = Zone(0, [(100, 60)])
            for other in NEXTS + LASTS:
                self.assertIs(meets(plain_case(jumps={other: 60}), zone, start), other == name)
                self.assertIs(meets(plain_case(jumps={other: 61}), zone, start), False)
                self.assertIs(meets(plain_case(jumps={other: -60}), zone, start), False)
            bound = (name, "start", 100 - start)
            self.assertTrue(meets(plain_case(bounds=[bound]), zone, start))
            self.assertFalse(meets(plain_case(bounds=[(name, "start", 99 - start)]), zone, start))

    def test_names_are_counted_from_the_start(self):
        jumps = dict(zip(LASTS[::-1] + NEXTS, ZONE.jump_list()))
        self.assertTrue(meets(plain_case(jumps=jumps), ZONE, 30000))
        self.assertTrue(meets(plain_case(jumps=jumps), ZONE, 39999))
        self.assertFalse(meets(plain_case(jumps=jumps), ZONE, 29999))
        self.assertFalse(meets(plain_case(jumps=jumps), ZONE, 40000))
        for name in jumps:
            self.assertFalse(meets(plain_case(jumps={**jumps, name: jumps[name] + 1}), ZONE, 30000))
            self.assertFalse(meets(plain_case(jumps={**jumps, name: LONG}), ZONE, 30000))
        self.assertFalse(meets(plain_case(jumps={"last1": 1}), Zone(0), 0))

    def test_midnight(self):
        for first in (0, 60, -75, 1440 * 10 ** 20 + 7):
            for start in (-1, 0, 1439, 1440, -LONG, LONG):
                time = (start + first) % 1440
                self.assertTrue(meets(plain_case(bounds=[("start", "midnight", time)]), Zone(first), start))
                self.assertFalse(meets(plain_case(bounds=[("start", "midnight", time - 1)]), Zone(first), start))
                self.assertTrue(meets(plain_case(bounds=[("midnight", "start", -time)]), Zone(first), start))
                self.assertFalse(meets(plain_case(bounds=[("midnight", "start", -time - 1)]), Zone(first), start))
        bound = ("start", "midnight", 60)
        self.assertTrue(meets(plain_case(bounds=[bound]), Zone(0, [(1440, 60)]), 1440))
        self.assertFalse(meets(plain_case(bounds=[bound]), Zone(0, [(1441, 60)]), 1439))

    def test_all_bounds_have_to_hold(self):
        bounds = [("start", "midnight", 1439)] * 200
        self.assertTrue(meets(plain_case(bounds=bounds), ZONE, 0))
        for place in (0, 100, 199):
            wrong = [*bounds[:place], ("start", "midnight", -1), *bounds[place + 1:]]
            self.assertFalse(meets(plain_case(bounds=wrong), ZONE, 0))
        self.assertTrue(meets(plain_case(), ZONE, 0))
        self.assertFalse(meets(plain_case(jumps={"next1": 60, "last1": 60}), ZONE, 0))

    def test_many_changes(self):
        zone = Zone(0, [(1000 * count, count % 2) for count in range(1, 21)])
        self.assertTrue(meets(plain_case(jumps={"last3": -1, "next3": 1}), zone, 10999))
        self.assertTrue(meets(plain_case(bounds=[("next3", "last3", 5000), ("last3", "next3", -5000)]), zone, 10999))

    def test_the_answers_and_the_example_do_not_matter(self):
        for answers in (((0, 5),), ("fails", 1), (True, False, (1, 0), (-1, LONG))):
            for example in ((Zone(0), 0), (ZONE, LONG)):
                told = plain_case(jumps={"next1": 60}, answers=answers, example=example)
                self.assertIs(meets(told, ZONE, 0), True)
                self.assertIs(meets(told, Zone(0), 0), False)

    def test_answers(self):
        told = plain_case(answers=((0, 5), (1, -7), (-1, 1439), True))
        for time in (0, 7, 1439):
            self.assertEqual(exact(answers_in(told, time)), exact([5, time - 7, 1439 - time, True]))
        self.assertEqual(exact(answers_in(plain_case(answers=(False,)), 3)), exact([False]))
        self.assertEqual(exact(answers_in(plain_case(answers=((0, LONG),)), 3)), exact([LONG]))
        self.assertEqual(exact(answers_in(plain_case(answers=("fails", 8)), 3)), exact(("fails", 8)))
        self.returns_new_lists(lambda: answers_in(told, 9))

    def test_by_name(self):
        case = plain_case(jumps={"next1": 60})
        self.assertTrue(meets(start=0, zone=ZONE, case=case))
        self.assertEqual(answers_in(time=9, case=case), [5])
        self.assertTrue(is_case(value=case))

    def test_arguments_stay(self):
        case = plain_case(jumps={"next1": 60}, bounds=[("start", "next1", 5)], answers=(True, (1, 3)))
        kept = repr(case[:3])
        meets(case, ZONE, 0), answers_in(case, 9), is_case(case)
        self.assertEqual(repr(case[:3]), kept)


WRONG_JUMPS = [
    None, [], (), [("next1", 60)], {"next1": True}, {"next1": "60"}, {"next1": None}, {"next1": (60,)}, {"next4": 60},
    {"next0": 60}, {"start": 0}, {"midnight": 0}, {1: 60}, {"": 60}, {"next1": 60, "other": 1}, {"next1": 60, 0: 60},
    {"next1 ": 60}, {"Next1": 60}, "next1", 0,
]
GOOD_BOUND = ("start", "next1", 5)
WRONG_BOUNDS = [
    None, (), (GOOD_BOUND,), {}, {0: GOOD_BOUND}, GOOD_BOUND, [None], [[*GOOD_BOUND]], [("start", "next1")],
    [("start", "next1", 5, 5)], [("start", "start", 5)], [("next1", "next1", 0)], [("start", "now", 5)], [("a", "start", 5)],
    [("next4", "start", 5)], [("start", "last0", 5)], [("start", "next1", True)], [("start", "next1", "5")],
    [("start", "next1", None)], [(0, "next1", 5)], [("start", None, 5)], [GOOD_BOUND, [*GOOD_BOUND]], [()],
    [GOOD_BOUND] * 201, [["start"]], [({}, "next1", 5)],
]
WRONG_ANSWERS = [
    None, [], (), [(0, 5)], ([0, 5],), ((0, 5), [0, 5]), ((0,),), ((0, 5, 5),), ((2, 5),), ((-2, 5),), ((True, 5),),
    ((0, True),), ((0, "5"),), ((None, 5),), (5,), ("true",), (None,), ((0, 5),) * 5, (True,) * 5, ("fails",),
    ("fails", 0), ("fails", -1), ("fails", True), ("fails", "1"), ("fails", None), ("fails", 1, 1), ["fails", 1],
    ("fail", 1), (1, "fails"), {}, {"fails": 1}, "fails", ("fails", (0, 5)), ((0, 5), "fails"), True, 5,
]
WRONG_EXAMPLES = [
    None, (), [Zone(0), 0], (Zone(0),), (Zone(0), 0, 0), (0, Zone(0)), (Zone(0), True), (Zone(0), "0"), (Zone(0), None),
    (None, 0), ((0, []), 0), (Kind([60], 5000), 0), Zone(0), 0, {},
]


class Forms(Checking):
    def wrong_cases(self):
        """Values that are no cases."""
        yield from [None, True, 0, "", "case", [], (), {}, *OTHERS, Kind([60], 5000)]
        yield [*plain_case()]
        yield plain_case()[:3]
        yield (*plain_case(), 0)
        yield plain_case()[::-1]
        parts = {"jumps": WRONG_JUMPS, "bounds": WRONG_BOUNDS, "answers": WRONG_ANSWERS, "example": WRONG_EXAMPLES}
        for name, values in parts.items():
            for value in values:
                yield plain_case(**{name: value})

    def test_cases(self):
        good = [
            plain_case(), plain_case(jumps={name: 60 for name in NEXTS + LASTS}), plain_case(jumps={"last3": -LONG}),
            plain_case(jumps={"next1": 0}), plain_case(bounds=[GOOD_BOUND] * 200),
            plain_case(bounds=[(x, y, LONG) for x in NAMES for y in NAMES if x != y]),
            plain_case(bounds=[("midnight", "last3", -LONG)]), plain_case(answers=(True,)), plain_case(answers=(False,) * 4),
            plain_case(answers=((-1, LONG), (0, -LONG), (1, 0), True)), plain_case(answers=("fails", 1)),
            plain_case(answers=("fails", LONG)), plain_case(example=(ZONE, -LONG)), plain_case(answers=((0, 1), (0, 2))),
        ]
        for case in good:
            self.assertIs(is_case(case), True, case)
            self.assertIs(type(meets(case, ZONE, 15000)), bool)
            answers_in(case, 0)

    def test_no_cases(self):
        for value in self.wrong_cases():
            self.assertIs(is_case(value), False, value)
            self.refused(InvalidCase, value, meets, value, ZONE, 0)
            self.refused(InvalidCase, value, answers_in, value, 0)

    def test_wrong_arguments(self):
        case = plain_case()
        wrong = [("case", InvalidCase, [[*case], None, 5]), ("zone", NotZone, [*NOT_OBJECTS, Kind([60], 5000)]),
                 ("start", InvalidInteger, NOT_INTEGERS)]
        self.refused_in_order(meets, {"case": case, "zone": ZONE, "start": 0}, wrong)
        wrong = [("case", InvalidCase, [[*case], None, 5]), ("time", InvalidTime, [-1, 1440, LONG, *NOT_INTEGERS])]
        self.refused_in_order(answers_in, {"case": case, "time": 0}, wrong)

    def test_results_are_cases(self):
        for text in (day_text("strict"), day_text("ahead", f"start {clock(0)} {clock(0)}")):
            for case in cases(Program(text), Kind([60, -720], 1441, 3)):
                self.assertTrue(is_case(case))


class Shifts(Checking):
    def test_what_is_met_stays_if_moments_are_moved_or_offsets_raised_by_days(self):
        for rng, program, kind in random_worlds(11, 60):
            found = cases(program, kind)
            for count in range(4):
                zone, start = random_place(rng, program, kind)
                met = [case for case in found if meets(case, zone, start)]
                self.assertEqual(len(met), 1)
                for minutes in (-1441, 7, 10 ** 20):
                    self.assertTrue(meets(met[0], zone.moved(minutes).raised(-minutes), start + minutes))
                for days in (-3, 10 ** 20):
                    self.assertTrue(meets(met[0], zone.raised(1440 * days), start))


if __name__ == "__main__":
    unittest.main()
