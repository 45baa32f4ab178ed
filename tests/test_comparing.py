"""Programs compared [101, 102], and what holds for all arguments [6, 7, 8, 9, 10, 11]."""

import unittest

from everyzone.comparing import alike, needless, parting, safe_rules
from everyzone.errors import NoPlace, NotKind, NotProgram, UnlikeStarts
from everyzone.kinds import Kind
from everyzone.programs import Program
from everyzone.running import run
from tests.checking import LONG, OTHERS, Checking
from tests.worlds import (
    RULES, all_steps, day_text, exact, moments_that_matter, random_steps, random_worlds, zone_around,
)

NOT_OBJECTS = ["", "kind", 0, 60, *OTHERS]
DAY = Program(day_text("ahead"))
HOURS = Program("start 00:00 23:59\nm = add now 1440\nn = between now m\nreturn n")
KIND = Kind([60, -60], 5000)
SHORT_KINDS = [Kind([2, -1], 5, 2), Kind([-2], 5, 3), Kind([1], 3, 1), Kind([3], 7, 0)]

# Programs that stay near the start, with one and the same start, for which all zones are tried that change near it.
SHORT_ROWS = [
    "r = read now\ns = add r 4\nm = place s {}\nn = between now m\nreturn n",
    "x = read now\ny = add x 2\nz = add y 2\nq = place z {}\na = between now q\nreturn a",
    "r = read now\ns = add r 4\nm = place s {}\nk = read m\nn = between r k\nreturn n",
    "m = add now 4\nr = read m\nk = place r {}\nn = between now k\nreturn n",
    "m = add now 4\nn = between now m\nreturn n",
    "r = read now\nk = place r {}\ns = add r 4\nm = place s ahead\nn = between now m\nreturn n",
    "r = read now\ns = add r 4\nm = place s {}\nn = between m now\nreturn n",
    "r = read now\ns = add r 4\nm = place s {}\nb = before now m\nreturn b",
    "b = before now now\nr = read now\nm = place r {}\nreturn b",
    "r = read now\ns = at r 00:02\nm = place s {}\nn = between now m\nreturn n",
    "r = read now\nt = time r\nm = place r {}\nreturn t",
    "r = read now\ns = at r 00:00\nm = place s {}\nt = between s r\nreturn t",
]


def short_programs():
    """The programs of SHORT_ROWS by each rule, each once."""
    texts = {f"start 00:00 00:02\n{rows.format(rule)}" for rows in SHORT_ROWS for rule in RULES}
    return [Program(text) for text in sorted(texts)]


def plain(answers):
    """What run tells, without the index of a line that fails."""
    return ("fails",) if isinstance(answers, tuple) else exact(answers)


def replaced(program, index, line):
    """A program with another line."""
    lines = str(program).split("\n")
    lines[index] = line
    return Program("\n".join(lines))


class Comparing(Checking):
    def check_parting(self, one, other, kind):
        """What parting and alike tell; whether the programs are alike."""
        told = parting(one, other, kind)
        self.assertIs(alike(one, other, kind), told is None)
        if told is not None:
            self.assertIs(type(told), tuple)
            zone, start = told
            self.assertTrue(kind.has(zone))
            self.assertNotEqual(plain(run(one, zone, start)), plain(run(other, zone, start)))
        return told is None

    def test_examples_of_the_document(self):
        told = [alike(DAY, HOURS, Kind([60], 5000, 0)), alike(DAY, HOURS, Kind([60], 5000)),
                parting(DAY, HOURS, Kind([60], 5000)) is None]
        self.assertEqual(told, [True, False, False])
        told = [needless(HOURS, Kind([60], 5000)), safe_rules(DAY, Kind([60], 5000), 3), safe_rules(DAY, Kind([60], 5000, 0), 3)]
        self.assertEqual(told, [[], ["ahead"], ["ahead", "behind", "strict"]])

    def test_all_zones_that_change_near_the_start(self):
        programs, same = short_programs(), 0
        for kind in SHORT_KINDS:
            places = [(zone_around(steps, 0, time), 0) for steps in all_steps(kind, -9, 10) for time in range(3)]
            lists = [[plain(run(program, zone, start)) for zone, start in places] for program in programs]
            for one, runs in zip(programs, lists):
                for other, others in zip(programs, lists):
                    self.assertEqual(self.check_parting(one, other, kind), runs == others, (str(one), str(other), kind.jumps))
                    same += runs == others
        self.assertGreater(same, 300)

    def test_a_change_at_any_minute(self):
        for jump in (60, -60, 720):
            kind = Kind([jump], 5000, 1)
            programs = [Program(day_text(rule, "start 02:00 02:00")) for rule in RULES]
            programs.append(Program("start 02:00 02:00\nm = add now 1440\nn = between now m\nreturn n"))
            zones = [zone_around([(moment, jump)], 0, 120) for moment in range(-800, 2300)]
            lists = [[plain(run(program, zone, 0)) for zone in zones] for program in programs]
            for one, runs in zip(programs, lists):
                for other, others in zip(programs, lists):
                    self.assertEqual(self.check_parting(one, other, kind), runs == others)

    def variants(self, rng, program):
        """Programs that are like a program but for a rule, an integer or the answers."""
        for index, words in enumerate(program.lines(), 1):
            more = {"place": RULES, "add": ["0", "1", "-1440", words[-1]], "days": ["0", "1", words[-1]],
                    "at": ["00:00", "23:59", words[-1]], "before": ["now"]}.get(words[2], [words[-1]])
            text = " ".join([*words[:-1], rng.choice(more)])
            if words[2] != "before":
                yield replaced(program, index, text)
        names = program.answers()
        yield replaced(program, -1, " ".join(["return", *names[::-1]]))
        yield replaced(program, -1, " ".join(["return", *names, names[0]][:5]))

    def test_variants_in_zones_at_random(self):
        told = []
        for rng, program, kind in random_worlds(101, 120):
            for other in self.variants(rng, program):
                told.append(self.check_parting(program, other, kind))
                for count in range(8 if told[-1] else 0):
                    start, time = rng.randint(-10 ** 6, 10 ** 6), rng.randint(program.low, program.high)
                    moments = [moment for one in (program, other) for moment in moments_that_matter(one, start, time)]
                    zone = zone_around(random_steps(rng, kind, moments), start, time)
                    self.assertEqual(plain(run(program, zone, start)), plain(run(other, zone, start)))
        self.assertGreater(told.count(True), 150)
        self.assertGreater(told.count(False), 100)

    def test_programs_are_like_themselves(self):
        for rng, program, kind in random_worlds(102, 100):
            self.assertTrue(self.check_parting(program, program, kind))
            text = str(program)
            for place in range(8):
                text = text.replace(f"v{place}", f"x{7 - place}")
            self.assertTrue(self.check_parting(program, Program(text), kind))

    def test_lines_that_no_answer_uses(self):
        other = Program(str(DAY).replace("m = place", "x = days s 9\ny = place x behind\nz = between y now\nm = place"))
        self.assertTrue(self.check_parting(DAY, other, KIND))
        self.assertTrue(self.check_parting(other, DAY, KIND))
        other = Program(str(other).replace("behind", "strict"))
        self.assertFalse(self.check_parting(DAY, other, KIND))
        self.assertTrue(self.check_parting(DAY, other, Kind([60], 5000, 0)))

    def test_another_number_or_order_of_answers(self):
        text = str(DAY).replace("return n", "t = time r\nreturn ")
        for one in ("n", "n t", "t n", "n n", "n t n t"):
            for other in ("n", "n t", "t n", "n n", "n t n t"):
                self.assertEqual(self.check_parting(Program(text + one), Program(text + other), KIND), one == other)

    def test_truths_and_numbers(self):
        one = Program("start 00:00 00:01\nr = read now\nt = time r\nreturn t")
        other = Program("start 00:00 00:01\nr = read now\ns = at r 00:00\nb = before s r\nreturn b")
        self.assertFalse(self.check_parting(one, other, KIND))
        self.assertFalse(self.check_parting(other, one, KIND))
        one, other = [Program(f"start 00:00 00:00\na = add now {n}\nb = {form} now a\nreturn b")
                      for n, form in ((1, "between"), (1, "before"))]
        self.assertFalse(self.check_parting(one, other, KIND))

    def test_numbers_that_are_equal_at_one_time_only(self):
        rows = "r = read now\ns = at r 12:00\nn = between {}\nreturn n"
        for low, high, same in (("12:00", "12:00", True), ("12:00", "12:01", False), ("11:59", "12:00", False),
                                ("11:59", "11:59", False), ("00:00", "23:59", False)):
            programs = [Program(f"start {low} {high}\n" + rows.format(names)) for names in ("r s", "s r", "r r")]
            for one in programs:
                for other in programs:
                    self.assertEqual(self.check_parting(one, other, KIND), same or one == other)

    def test_failing_at_another_line_is_no_difference(self):
        one = Program(day_text("strict"))
        other = Program(str(one).replace("m = place", "x = add s 0\ny = place x strict\nz = read y\nm = place"))
        self.assertTrue(self.check_parting(one, other, KIND))
        self.assertTrue(self.check_parting(other, one, KIND))
        for rule in ("ahead", "behind"):
            self.assertFalse(self.check_parting(one, Program(day_text(rule)), KIND))
            self.assertFalse(self.check_parting(Program(day_text(rule)), one, KIND))

    def test_what_differs_in_a_kind_differs_in_a_wider_one(self):
        narrow = [Kind([60], 5000, 1), Kind([60], 5000), Kind([60, -60], 5000), Kind([60, -60], 2000, 3)]
        programs = [Program(day_text(rule, days=days)) for rule in RULES for days in (1, 2)] + [HOURS]
        for one in programs:
            for other in programs:
                told = [alike(one, other, kind) for kind in narrow]
                self.assertEqual(told, sorted(told, reverse=True))

    def test_least_times_of_thirty_digits(self):
        self.assertFalse(self.check_parting(DAY, HOURS, Kind([60, -60], LONG, 3)))
        self.assertTrue(self.check_parting(DAY, DAY, Kind([60, -60], LONG, 3)))


class Lines(Checking):
    def check_lines(self, program, kind):
        """By alike of the programs with the lines replaced."""
        found = []
        for index, words in enumerate(program.lines(), 1):
            if words[2] in ("add", "days", "at"):
                other = replaced(program, index, f"{words[0]} = add {words[3]} 0")
                found += [index] if alike(program, other, kind) else []
            if words[2] == "place":
                rules = [rule for rule in RULES
                         if alike(program, replaced(program, index, " ".join([*words[:-1], rule])), kind)]
                self.assertEqual(safe_rules(program, kind, index), rules)
                self.assertIn(words[-1], rules)
        self.assertEqual(needless(program, kind), found)
        return found

    def test_at_random(self):
        found = [len(self.check_lines(program, kind)) for rng, program, kind in random_worlds(103, 150)]
        self.assertGreater(len(set(found)), 2)

    def test_short_programs(self):
        for program in short_programs():
            for kind in SHORT_KINDS:
                self.check_lines(program, kind)

    def test_by_hand(self):
        rows = "a = add now 0\nb = read a\nc = days b 0\nd = add c 5\ne = at d 12:00\nf = add e -5\ng = at f 12:00\nn = between b g"
        program = Program(f"start 00:00 23:54\n{rows}\nreturn n")
        self.assertEqual(needless(program, KIND), [1, 3, 4, 5, 6])
        # Five minutes before midnight the day of d is another one than that of c.
        self.assertEqual(needless(Program(str(program).replace("23:54", "23:55")), KIND), [1, 3, 6])
        program = Program("start 12:00 12:00\nr = read now\ns = at r 12:00\nm = place s ahead\nn = between now m\nreturn n")
        self.assertEqual(needless(program, KIND), [2])
        self.assertEqual(safe_rules(program, KIND, 3), ["ahead"])
        self.assertEqual(safe_rules(program, Kind([60], 5000), 3), ["ahead", "behind", "strict"])

    def test_a_rule_that_does_not_matter(self):
        rows = "r = read now\nm = place r {}\nb = before now now\nreturn b"
        for rule, rules in (("ahead", ["ahead", "behind"]), ("behind", ["ahead", "behind"]), ("strict", ["strict"])):
            program = Program("start 00:00 23:59\n" + rows.format(rule))
            self.assertEqual(safe_rules(program, Kind([-60], 5000), 2), rules)
            self.assertEqual(safe_rules(program, Kind([60], 5000), 2), list(RULES))

    def test_no_lines(self):
        program = Program("start 00:00 23:59\nn = between now now\nreturn n")
        self.assertEqual(needless(program, KIND), [])


class Arguments(Checking):
    def test_new_lists(self):
        self.returns_new_lists(lambda: needless(HOURS, Kind([60], 5000)))
        self.returns_new_lists(lambda: safe_rules(DAY, KIND, 3))
        self.assertEqual({type(needless(DAY, KIND)), type(safe_rules(DAY, KIND, 3))}, {list})

    def test_the_same_answers_for_equal_arguments(self):
        kind = Kind((-60, 60), 5000)
        self.assertEqual(parting(Program(str(DAY)), Program(str(HOURS)), kind), parting(DAY, HOURS, KIND))

    def test_by_name(self):
        self.assertEqual(parting(kind=KIND, other=HOURS, one=DAY), parting(DAY, HOURS, KIND))
        self.assertEqual(alike(kind=KIND, other=HOURS, one=DAY), False)
        self.assertEqual(needless(kind=KIND, program=DAY), needless(DAY, KIND))
        self.assertEqual(safe_rules(index=3, kind=KIND, program=DAY), ["ahead"])

    def test_other_starts(self):
        for start in ("start 00:00 23:58", "start 00:01 23:59", "start 12:00 12:00"):
            other = Program(day_text("ahead", start))
            for call in (parting, alike):
                self.refused(UnlikeStarts, other, call, DAY, other, KIND)
                self.refused(UnlikeStarts, DAY, call, other=DAY, kind=KIND, one=other)
                self.refused(NotKind, "kind", lambda: call(DAY, other, "kind"))

    def test_wrong_arguments(self):
        good = {"one": DAY, "other": HOURS, "kind": KIND}
        programs = [*NOT_OBJECTS, KIND, str(DAY)]
        wrong = [("one", NotProgram, programs), ("other", NotProgram, programs), ("kind", NotKind, [*NOT_OBJECTS, DAY])]
        for call in (parting, alike):
            self.refused_in_order(call, good, wrong)
        good = {"program": DAY, "kind": KIND}
        wrong = [("program", NotProgram, programs), wrong[2]]
        self.refused_in_order(needless, good, wrong)
        wrong.append(("index", NoPlace, [0, 1, 2, 4, 5, 6, -1, LONG, "3", *OTHERS]))
        self.refused_in_order(safe_rules, {**good, "index": 3}, wrong)


if __name__ == "__main__":
    unittest.main()
