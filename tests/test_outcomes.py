"""Outcomes [81, 82, 83, 84], and what holds for all arguments [6, 7, 8, 9, 10, 11]."""

import itertools
import unittest

from everyzone.cases import cases
from everyzone.errors import InvalidInteger, InvalidPart, NoAnswer, NotKind, NotProgram
from everyzone.kinds import Kind
from everyzone.outcomes import greatest, least, showing, sure, together, values_of
from everyzone.programs import Program
from everyzone.running import run
from everyzone.zones import Zone
from tests.checking import LONG, OTHERS, Checking
from tests.worlds import RULES, all_steps, clock, day_text, exact, random_place, random_worlds, zone_around

NOT_OBJECTS = ["", "kind", 0, 60, *OTHERS]
NOT_VALUES = [value for value in ["", "1", *OTHERS] if not isinstance(value, bool)]
DAY = Program(day_text("ahead").replace("return n", "t = time r\nreturn n t"))
KIND = Kind([60, -60], 5000)

# Programs that start at one time, for which each change is tried at any minute that matters.
LONG_TEXTS = [
    "r = read now\ns = days r 1\nm = place s {}\nn = between now m\nt = time s\nreturn n t",
    "r = read now\ns = at r 12:00\nm = place s {}\nk = read m\nn = between r k\nb = before now m\nreturn n b",
    "m = add now -700\nr = read m\ns = days r -1\nk = place s {}\nn = between k now\nd = day r\nreturn n d n",
    "r = read now\ns = add r 700\nm = place s {}\nk = read m\nn = time k\nb = before s k\nd = day k\nreturn b n d",
    "r = read now\nm = place r {}\nn = between now m\nb = before m now\nc = before now m\nreturn n b c",
]
# Programs that stay near the start, for which all zones are tried that change near it.
SHORT_TEXTS = [
    "start 00:00 00:03\nr = read now\ns = add r 4\nm = place s {}\nn = between now m\nt = time s\nreturn n t",
    "start 00:00 00:02\nr = read now\ns = at r 00:01\nm = place s {}\nb = before now m\nn = between m now\nreturn b n n",
    "start 00:01 00:02\nm = add now 5\nr = read m\ns = add r -6\nk = place s {}\nt = read k\nn = time t\nb = before t s\nreturn n b",
]
SHORT_KINDS = [Kind([2, -1], 5, 2), Kind([-2], 5, 3), Kind([1], 3, 1), Kind([2, -2, 1, -1], 6, 2), Kind([3], 7, 0)]


def told_by_runs(program, kind, low, high, step=1):
    """The lists that run tells in all zones that change from low to high, with the start 0."""
    found = []
    for steps in all_steps(kind, low, high):
        for time in range(program.low, program.high + 1, step):
            told = run(program, zone_around(steps, 0, time), 0)
            if told not in found:
                found.append(told)
    return found


def stretches(numbers):
    """The stretches of some integers."""
    found = []
    for number in sorted(set(numbers)):
        if found and found[-1][1] + 1 == number:
            found[-1] = (found[-1][0], number)
        else:
            found.append((number, number))
    return found


class Outcomes(Checking):
    def check_shown(self, program, kind, told, indices, values):
        """What is told is a zone and a start where the answers with these indices have these values."""
        self.assertIs(type(told), tuple)
        zone, start = told
        self.assertTrue(kind.has(zone))
        self.assertTrue(program.low <= zone.read(start) % 1440 <= program.high)
        answers = run(program, zone, start)
        self.assertEqual(exact([answers[index] for index in indices]), exact(list(values)))

    def check_answers(self, program, kind, runs):
        """All that is told of a program for which run tells these lists."""
        lists = [told for told in runs if isinstance(told, list)]
        for index, name in enumerate(program.answers()):
            values = [told[index] for told in lists]
            found = values_of(program, kind, index)
            if program.kind_of(name) == "truth":
                self.assertEqual(exact(found), exact(sorted(set(values))))
                ends, others = found, [value for value in (False, True) if value not in found] + [0, 1]
            else:
                self.assertEqual(exact(found), exact(stretches(values)), (str(program), kind.jumps))
                ends = sorted({value for low, high in found for value in (low, high, (low + high) // 2)})
                beside = {low - 1 for low, high in found} | {high + 1 for low, high in found}
                others = [*beside, LONG, -LONG, True, False]
            for value in ends:
                self.check_shown(program, kind, showing(program, kind, index, value), [index], [value])
            for value in others:
                self.assertIsNone(showing(program, kind, index, value), (str(program), index, value))
            self.assertEqual(exact(least(program, kind, index)), exact(min(values)))
            self.assertEqual(exact(greatest(program, kind, index)), exact(max(values)))
        self.check_sure(program, kind, lists)
        self.check_together(program, kind, lists)

    def check_sure(self, program, kind, lists):
        one = [{exact_key(told[index]) for told in lists} for index in range(len(program.answers()))]
        told = [("sure", lists[0][index]) if len(found) == 1 else None for index, found in enumerate(one)]
        self.assertEqual(exact(sure(program, kind)), exact(told))

    def check_together(self, program, kind, lists):
        indices = range(len(program.answers()))
        keys = {tuple(exact_key(value) for value in told) for told in lists}
        values = [sorted({told[index] for told in lists}) for index in indices]
        some = [[*row[:3], *row[-2:], True, row[0] - 1] for row in values]
        for told in itertools.islice(itertools.product(*some), 300):
            found = together(program, kind, list(told))
            if tuple(exact_key(value) for value in told) in keys:
                self.check_shown(program, kind, found, indices, told)
            else:
                self.assertIsNone(found, (str(program), told))

    def test_examples_of_the_document(self):
        told = [values_of(DAY, KIND, 0), values_of(DAY, Kind([60], 5000, 0), 0), values_of(DAY, Kind([60], 5000), 1)]
        self.assertEqual(told, [[(1380, 1380), (1440, 1440), (1500, 1500)], [(1440, 1440)], [(0, 1439)]])
        told = [least(DAY, KIND, 0), sure(DAY, Kind([60], 5000, 0)), together(DAY, Kind([60], 5000), [1380, 30]) is None]
        self.assertEqual(told, [1380, [("sure", 1440), None], False])

    def test_a_change_at_any_minute(self):
        for time, jump in ((120, 60), (0, -60), (1439, 60), (700, 720), (719, -720), (30, 1)):
            kind = Kind([jump], 5000, 1)
            for text in LONG_TEXTS:
                for rule in RULES:
                    program = Program(f"start {clock(time)} {clock(time)}\n" + text.format(rule))
                    reach = program.reach() + 2 * abs(jump) + 2
                    self.check_answers(program, kind, told_by_runs(program, kind, -reach, reach))

    def test_all_zones_that_change_near_the_start(self):
        for text in SHORT_TEXTS:
            for rule in RULES:
                program = Program(text.format(rule))
                for kind in SHORT_KINDS:
                    self.check_answers(program, kind, told_by_runs(program, kind, -12, 13))

    def test_zones_at_random_have_no_other_values(self):
        for rng, program, kind in random_worlds(82, 200):
            found = [values_of(program, kind, index) for index in range(len(program.answers()))]
            for count in range(15):
                zone, start = random_place(rng, program, kind)
                answers = run(program, zone, start)
                for value, told in zip(answers, found) if isinstance(answers, list) else []:
                    if isinstance(value, bool):
                        self.assertIn(value, told)
                    else:
                        self.assertTrue(any(low <= value <= high for low, high in told))
                if isinstance(answers, list):
                    self.check_shown(program, kind, together(program, kind, answers), range(len(answers)), answers)

    def test_each_end_is_shown(self):
        for rng, program, kind in random_worlds(83, 200):
            for index in range(len(program.answers())):
                for item in values_of(program, kind, index):
                    if isinstance(item, bool):
                        self.check_shown(program, kind, showing(program, kind, index, item), [index], [item])
                        continue
                    for value in (item[0], item[1], rng.randint(*item)):
                        self.check_shown(program, kind, showing(program, kind, index, value), [index], [value])
                    self.assertIsNone(showing(program, kind, index, item[0] - 1))
                    self.assertIsNone(showing(program, kind, index, item[1] + 1))

    def test_stretches_ascend_and_do_not_touch(self):
        for rng, program, kind in random_worlds(84, 300):
            for index, name in enumerate(program.answers()):
                found = values_of(program, kind, index)
                self.assertIs(type(found), list)
                self.assertGreater(len(found), 0)
                if program.kind_of(name) == "number":
                    self.assertTrue(all(type(item) is tuple and item[0] <= item[1] for item in found))
                    self.assertTrue(all(one[1] + 1 < other[0] for one, other in zip(found, found[1:])))
                    self.assertEqual(least(program, kind, index), found[0][0])
                    self.assertEqual(greatest(program, kind, index), found[-1][1])

    def test_truths(self):
        text = "start 00:00 00:59\nr = read now\ns = at r 00:30\na = before s r\nb = before now now\nreturn a b"
        program = Program(text)
        self.assertEqual(exact([values_of(program, KIND, 0), values_of(program, KIND, 1)]), exact([[False, True], [False]]))
        self.assertEqual(exact([least(program, KIND, 0), greatest(program, KIND, 0)]), exact([False, True]))
        self.assertEqual(exact([least(program, KIND, 1), greatest(program, KIND, 1)]), exact([False, False]))
        self.assertEqual(exact(sure(program, KIND)), exact([None, ("sure", False)]))
        for value in (0, 1, 5):
            self.assertIsNone(showing(program, KIND, 0, value))
            self.assertIsNone(together(program, KIND, [value, False]))
        self.assertIsNone(showing(program, KIND, 1, True))
        self.check_shown(program, KIND, showing(program, KIND, 0, True), [0], [True])
        self.check_shown(program, KIND, together(program, KIND, (True, False)), [0, 1], [True, False])
        program = Program("start 00:00 00:01\nr = read now\nt = time r\nreturn t")
        for value in (False, True):
            self.assertIsNone(showing(program, KIND, 0, value))
            self.assertIsNone(together(program, KIND, [value]))

    def test_programs_that_fail_for_some_zones(self):
        program = Program(day_text("strict", "start 02:00 02:00"))
        self.assertEqual(values_of(program, Kind([60], 5000), 0), [(1380, 1380), (1440, 1440)])
        self.assertEqual(values_of(program, Kind([720], 5000), 0), [(720, 720), (1440, 1440)])
        rows = ["r = read now", "m = place r strict", "s = add r 720", "k = place s {}", "n = between m k", "return n"]
        for rule, told in (("strict", [720]), ("ahead", [720]), ("behind", [720, 1440])):
            program = Program("\n".join(["start 00:00 23:59", *rows]).format(rule))
            self.assertEqual(values_of(program, Kind([-720], 5000, 1), 0), [(value, value) for value in told])

    def test_answers_that_come_together(self):
        rows = ["r = read now", "t = time r", "s = days r 1", "m = place s ahead", "n = between now m", "return n t n t"]
        program = Program("\n".join(["start 00:10 23:59", *rows]))
        for values in ([1380, 10, 1380, 10], (1440, 1439, 1440, 1439), [1500, 700, 1500, 700]):
            self.check_shown(program, KIND, together(program, KIND, values), range(4), values)
        for values in ([1380, 10, 1440, 10], [1380, 9, 1380, 9], [1440, 10, 1440, 11], [1441, 10, 1441, 10]):
            self.assertIsNone(together(program, KIND, values))
        self.assertEqual(sure(program, KIND), [None] * 4)
        self.assertEqual(sure(Program("start 00:10 00:10\n" + "\n".join(rows)), KIND), [None, ("sure", 10)] * 2)

    def test_an_answer_with_each_sign_of_the_time(self):
        rows = ["r = read now", "s = at r 12:00", "n = between r s", "k = between s r", "z = between r r", "return n k z"]
        program = Program("\n".join(["start 08:00 17:00", *rows]))
        self.assertEqual([values_of(program, KIND, index) for index in range(3)], [[(-300, 240)], [(-240, 300)], [(0, 0)]])
        self.check_shown(program, KIND, together(program, KIND, [7, -7, 0]), range(3), [7, -7, 0])
        self.assertIsNone(together(program, KIND, [7, 7, 0]))
        self.assertIsNone(together(program, KIND, [241, -241, 0]))

    def test_programs_without_a_clock(self):
        program = Program("start 00:00 23:59\nm = add now 100000\nn = between now m\nreturn n")
        for kind in (KIND, Kind([1, -1, 2, -2], LONG, 3), Kind([720], 1441, 0)):
            self.assertEqual(values_of(program, kind, 0), [(100000, 100000)])
            self.assertEqual(sure(program, kind), [("sure", 100000)])

    def test_the_same_as_the_table_of_cases(self):
        for rng, program, kind in random_worlds(85, 60):
            kept = [answers for jumps, bounds, answers, example in cases(program, kind) if answers[0] != "fails"]
            for index, name in enumerate(program.answers()):
                if program.kind_of(name) == "truth":
                    self.assertEqual(values_of(program, kind, index), sorted({answers[index] for answers in kept}))


def exact_key(value):
    """A key that tells truths from integers."""
    return isinstance(value, bool), value


class Arguments(Checking):
    def test_new_lists(self):
        for call in (lambda: values_of(DAY, KIND, 0), lambda: sure(DAY, KIND)):
            self.returns_new_lists(call)
        self.assertEqual({type(item) for item in values_of(DAY, KIND, 0)}, {tuple})
        self.assertEqual(type(sure(DAY, Kind([60], 5000, 0))[0]), tuple)

    def test_the_same_answers_for_equal_arguments(self):
        other = Program(str(DAY))
        for kind in (KIND, Kind((-60, 60), 5000)):
            self.assertEqual(showing(other, kind, 0, 1380), showing(DAY, KIND, 0, 1380))
            self.assertEqual(together(other, kind, (1380, 30)), together(DAY, KIND, [1380, 30]))
            self.assertEqual(values_of(other, kind, 0), values_of(DAY, KIND, 0))

    def test_by_name(self):
        self.assertEqual(values_of(index=0, kind=KIND, program=DAY), values_of(DAY, KIND, 0))
        self.assertEqual(showing(value=1380, index=0, kind=KIND, program=DAY), showing(DAY, KIND, 0, 1380))
        self.assertEqual(least(index=0, kind=KIND, program=DAY), 1380)
        self.assertEqual(greatest(index=0, kind=KIND, program=DAY), 1500)
        self.assertEqual(sure(kind=KIND, program=DAY), [None, None])
        self.assertEqual(together(values=[1380, 3], kind=KIND, program=DAY), together(DAY, KIND, [1380, 3]))

    def wrong(self, indices=True):
        found = [("program", NotProgram, [*NOT_OBJECTS, KIND]), ("kind", NotKind, [*NOT_OBJECTS, DAY])]
        if indices:
            found.append(("index", NoAnswer, [2, -1, LONG, "0", "n", *OTHERS]))
        return found

    def test_wrong_arguments(self):
        good = {"program": DAY, "kind": KIND, "index": 0}
        for call in (values_of, least, greatest):
            self.refused_in_order(call, good, self.wrong())
        self.refused_in_order(showing, {**good, "value": 5}, [*self.wrong(), ("value", InvalidInteger, NOT_VALUES)])
        self.refused_in_order(sure, {"program": DAY, "kind": KIND}, self.wrong(False))

    def test_wrong_values(self):
        good = {"program": DAY, "kind": KIND, "values": [1380, 3]}
        lists = [None, True, 5, "", "ab", {}, {0: 1, 1: 2}, [], [1380], [1380, 3, 3], (), (1,), [[1, 2]], Zone(0), DAY]
        self.refused_in_order(together, good, [*self.wrong(False), ("values", InvalidPart, lists)])
        for item in NOT_VALUES:
            for values in ([item, 3], [1380, item], (item, 3), [item, ["later"]], [True, item]):
                self.refused(InvalidInteger, item, together, DAY, KIND, values)

    def test_indices_of_other_answers(self):
        program = Program("start 00:00 00:00\nn = between now now\nreturn n n n n")
        for index in range(4):
            self.assertEqual(values_of(program, KIND, index), [(0, 0)])
        self.refused(NoAnswer, 4, values_of, program, KIND, 4)
        self.refused(NoAnswer, False, values_of, program, KIND, False)

    def test_arguments_stay(self):
        values = [1380, 3]
        together(DAY, KIND, values)
        self.assertEqual(values, [1380, 3])


if __name__ == "__main__":
    unittest.main()
