"""Gaps and folds that programs meet, and lines that fail [91, 92], and what holds for all arguments [6 to 11]."""

import unittest

from everyzone.errors import InvalidWord, NoPlace, NotKind, NotProgram
from everyzone.faults import failing, failing_lines, faults, meeting, most_faults
from everyzone.kinds import Kind
from everyzone.programs import Program
from everyzone.running import met, run
from tests.checking import LONG, OTHERS, Checking
from tests.worlds import (
    RULES, all_steps, clock, day_text, moments_that_matter, random_place, random_worlds, zone_around,
)

NOT_OBJECTS = ["", "kind", 0, 60, *OTHERS]
WORDS = ("gap", "fold")
TWO = Program(day_text("behind", "start 02:00 02:00"))
STRICT = Program(day_text("strict", "start 02:00 02:00").replace(
    "n = between now m", "k = place s strict\nn = between m k"))
KIND = Kind([60, -60], 5000)

LONG_TEXTS = [
    "r = read now\ns = days r 1\nm = place s {0}\nk = place s {1}\nn = between k m\nreturn n",
    "r = read now\nm = place r {0}\ns = at r 12:00\nk = place s {1}\nn = between k m\nreturn n",
    "r = read now\ns = days r -1\nm = place s {0}\nt = add s 90\nk = place t {1}\nn = between r s\nreturn n",
]
SHORT_TEXTS = [
    "start 00:00 00:03\nr = read now\ns = add r 4\nm = place s {0}\nk = read m\nl = place k {1}\nn = between l m\nreturn n",
    "start 00:00 00:02\nr = read now\nm = place r {0}\ns = at r 00:01\nk = place s {1}\nn = between k m\nreturn n",
    "start 00:01 00:01\nm = add now 5\nr = read m\nk = place r {0}\ns = add r -6\nl = place s {1}\nt = time s\nreturn t",
    "start 00:02 00:03\nr = read now\na = place r {0}\ns = add r 5\nb = place s {1}\nt = add s 1\nc = place t {0}\nn = time s\nreturn n",
]
SHORT_KINDS = [Kind([2, -1], 5, 2), Kind([-2], 5, 3), Kind([1], 3, 1), Kind([2, -2, 1, -1], 6, 2), Kind([3], 7, 0)]


def moments_around(program, time, jump):
    """Moments from the first to the last one at which a change can matter, and all that are near those that do."""
    reach = program.reach() + 2 * abs(jump) + 2
    near = [moment + hop * jump for moment in moments_that_matter(program, 0, time) for hop in range(-2, 3)]
    return sorted({*range(-reach, reach, 7), *[moment + beside for moment in near for beside in range(-2, 3)]})


class Faults(Checking):
    def check_shown(self, program, kind, told):
        """What is told is a zone of the kind with a start."""
        self.assertIs(type(told), tuple)
        zone, start = told
        self.assertTrue(kind.has(zone))
        self.assertTrue(program.low <= zone.read(start) % 1440 <= program.high)
        return zone, start

    def check_faults(self, program, kind, places):
        """All that is told of a program for which these zones and starts are all that matter."""
        lists = [met(program, zone, start) for zone, start in places]
        seen = {fault for touched in lists for fault in touched}
        failed = {answers[1] for answers in [run(program, zone, start) for zone, start in places] if answers[0] == "fails"}
        told = (str(program), kind.jumps, kind.apart, kind.most)
        self.assertEqual(faults(program, kind), sorted(seen), told)
        for index, words in enumerate(program.lines(), 1):
            for word in WORDS if words[2] == "place" else []:
                found = meeting(program, kind, index, word)
                self.assertEqual(found is not None, (index, word) in seen, told)
                if found is not None:
                    self.assertIn((index, word), met(program, *self.check_shown(program, kind, found)))
        self.assertEqual(failing_lines(program, kind), sorted(failed), told)
        found = failing(program, kind)
        self.assertEqual(found is not None, bool(failed), told)
        if found is not None:
            self.assertEqual(run(program, *self.check_shown(program, kind, found))[0], "fails")
        number, zone, start = most_faults(program, kind)
        self.assertEqual(number, max(len(touched) for touched in lists), told)
        self.assertEqual(len(met(program, *self.check_shown(program, kind, (zone, start)))), number)

    def test_examples_of_the_document(self):
        told = [faults(TWO, Kind([60], 5000)), faults(TWO, Kind([60, -30], 5000)), faults(TWO, Kind([-1], 5000)),
                meeting(TWO, Kind([60], 5000), 3, "fold")]
        self.assertEqual(told, [[(3, "gap")], [(3, "fold"), (3, "gap")], [(3, "fold")], None])
        told = [failing(TWO, Kind([60], 5000)), failing_lines(STRICT, Kind([60], 5000)),
                most_faults(STRICT, Kind([60], 5000))[0], most_faults(TWO, Kind([60], 5000, 0))[0]]
        self.assertEqual(told, [None, [3], 1, 0])

    def test_a_change_at_any_minute(self):
        for time, jump in ((120, 60), (0, -60), (719, 720), (30, -720), (1439, 1)):
            kind = Kind([jump], 5000, 1)
            for text in LONG_TEXTS:
                for one in RULES:
                    for other in RULES:
                        program = Program(f"start {clock(time)} {clock(time)}\n" + text.format(one, other))
                        moments = moments_around(program, time, jump)
                        steps = [[]] + [[(moment, jump)] for moment in moments]
                        self.check_faults(program, kind, [(zone_around(row, 0, time), 0) for row in steps])

    def test_all_zones_that_change_near_the_start(self):
        for place, text in enumerate(SHORT_TEXTS):
            for one in RULES:
                for kind in SHORT_KINDS:
                    program = Program(text.format(one, RULES[(RULES.index(one) + place) % 3]))
                    times = range(program.low, program.high + 1)
                    zones = [(zone_around(steps, 0, time), 0) for steps in all_steps(kind, -11, 12) for time in times]
                    self.check_faults(program, kind, zones)

    def test_zones_at_random_meet_and_fail_nowhere_else(self):
        seen = set()
        for rng, program, kind in random_worlds(91, 300):
            told, lines, most = faults(program, kind), failing_lines(program, kind), most_faults(program, kind)[0]
            never = failing(program, kind) is None
            for count in range(12):
                zone, start = random_place(rng, program, kind)
                touched, answers = met(program, zone, start), run(program, zone, start)
                self.assertLessEqual(len(touched), most)
                self.assertTrue(set(touched) <= set(told))
                if answers[0] == "fails":
                    self.assertFalse(never)
                    self.assertIn(answers[1], lines)
                seen.add((len(touched), answers[0] == "fails"))
        self.assertGreater(len(seen), 4)

    def test_what_is_told_is_shown(self):
        for rng, program, kind in random_worlds(92, 300):
            told = faults(program, kind)
            self.assertEqual(told, sorted(set(told)))
            for index, words in enumerate(program.lines(), 1):
                for word in WORDS if words[2] == "place" else []:
                    found = meeting(program, kind, index, word)
                    self.assertEqual(found is not None, (index, word) in told)
                    if found is not None:
                        self.assertIn((index, word), met(program, *self.check_shown(program, kind, found)))
            number, zone, start = most_faults(program, kind)
            self.assertEqual(len(met(program, *self.check_shown(program, kind, (zone, start)))), number)
            lines, found = failing_lines(program, kind), failing(program, kind)
            self.assertEqual(found is None, lines == [])
            if found is not None:
                self.assertIn(run(program, *self.check_shown(program, kind, found))[1], lines)
            strict = {index for index, words in enumerate(program.lines(), 1) if words[-1] == "strict"}
            self.assertTrue(set(lines) <= strict)
            self.assertEqual(set(lines), {index for index, word in told} & strict)

    def test_a_line_that_is_never_in_a_gap_because_an_earlier_one_fails(self):
        self.assertEqual(faults(STRICT, KIND), [(3, "fold"), (3, "gap")])
        for word in WORDS:
            self.assertIsNone(meeting(STRICT, KIND, 4, word))
            self.assertIsNotNone(meeting(STRICT, KIND, 3, word))
        other = Program(str(STRICT).replace("m = place s strict", "m = place s ahead"))
        self.assertEqual(faults(other, KIND), [(3, "fold"), (3, "gap"), (4, "fold"), (4, "gap")])
        self.assertEqual(failing_lines(other, KIND), [4])
        self.assertEqual(most_faults(other, KIND)[0], 2)

    def test_several_gaps_at_once(self):
        rows = ["r = read now"]
        for days in (1, 2, 3):
            rows += [f"s{days} = days r {days}", f"m{days} = place s{days} ahead"]
        program = Program("\n".join(["start 02:00 02:00", *rows, "n = between m1 m3", "return n"]))
        # From the end of the first fold to the beginning of the second one 1559 minutes pass, and from the end of the
        # first to the beginning of the third one 3059 in two steps; with gaps these are 1439 and 2819.
        for most, number in ((3, 3), (2, 2), (1, 1), (0, 0)):
            self.assertEqual(most_faults(program, Kind([-60], 1441, most))[0], number)
            self.assertEqual(most_faults(program, Kind([60], 1401, most))[0], number)
        for apart, number in ((1529, 3), (1530, 2), (1559, 2), (1560, 2), (2999, 2), (3000, 1), (LONG, 1)):
            self.assertEqual(most_faults(program, Kind([-60], apart, 3))[0], number, apart)
        for apart, number in ((1409, 3), (1410, 2), (1439, 2), (1440, 2), (2879, 2), (2880, 1), (LONG, 1)):
            self.assertEqual(most_faults(program, Kind([60], apart, 3))[0], number, apart)

    def test_no_place_and_no_changes(self):
        program = Program("start 00:00 23:59\nn = between now now\nreturn n")
        for kind in (KIND, Kind([60], 5000, 0)):
            self.assertEqual([faults(program, kind), failing(program, kind), failing_lines(program, kind)], [[], None, []])
            number, zone, start = most_faults(program, kind)
            self.assertEqual((number, kind.has(zone)), (0, True))
            run(program, zone, start)
        for rule in RULES:
            self.assertEqual(faults(Program(day_text(rule)), Kind([60], 5000, 0)), [])

    def test_least_times_of_thirty_digits(self):
        program = Program(day_text("strict", "start 02:00 02:00"))
        self.assertEqual(faults(program, Kind([60, -60], LONG, 3)), [(3, "fold"), (3, "gap")])
        self.assertEqual(most_faults(program, Kind([60, -60], LONG, 3))[0], 1)


class Arguments(Checking):
    def test_new_lists(self):
        self.returns_new_lists(lambda: faults(STRICT, KIND))
        self.returns_new_lists(lambda: failing_lines(STRICT, KIND))
        self.assertEqual({type(item) for item in faults(STRICT, KIND)}, {tuple})
        self.assertIs(type(most_faults(STRICT, KIND)), tuple)

    def test_the_same_answers_for_equal_arguments(self):
        program, kind = Program(str(STRICT)), Kind((-60, 60), 5000)
        for call in (faults, failing, failing_lines, most_faults):
            self.assertEqual(call(program, kind), call(STRICT, KIND))
        self.assertEqual(meeting(program, kind, 3, "gap"), meeting(STRICT, KIND, 3, "gap"))

    def test_by_name(self):
        for call in (faults, failing, failing_lines, most_faults):
            self.assertEqual(call(kind=KIND, program=STRICT), call(STRICT, KIND))
        told = meeting(word="gap", index=3, kind=KIND, program=STRICT)
        self.assertEqual(told, meeting(STRICT, KIND, 3, "gap"))

    def test_wrong_arguments(self):
        wrong = [("program", NotProgram, [*NOT_OBJECTS, KIND]), ("kind", NotKind, [*NOT_OBJECTS, STRICT])]
        for call in (faults, failing, failing_lines, most_faults):
            self.refused_in_order(call, {"program": STRICT, "kind": KIND}, wrong)
        good = {"program": STRICT, "kind": KIND, "index": 3, "word": "gap"}
        wrong.append(("index", NoPlace, [0, 1, 2, 5, 6, 7, -1, -2, 100, LONG, "3", "m", (3,), *OTHERS]))
        wrong.append(("word", InvalidWord, ["", "Gap", "gap ", "ahead", "folds", 0, 1, *OTHERS, ["gap"]]))
        self.refused_in_order(meeting, good, wrong)
        first = Program("start 00:00 00:00\nr = read now\nm = place r ahead\nn = between now m\nreturn n")
        for index in (True, False, 1, 3):
            self.refused(NoPlace, index, meeting, first, KIND, index, "gap")


if __name__ == "__main__":
    unittest.main()
