"""Texts [131, 132], and what holds for all arguments [6, 7, 8, 9, 10]."""

import itertools
import random
import re
import unittest

from everyzone.cases import cases
from everyzone.errors import (
    Duplicate, InvalidCase, InvalidChange, InvalidInteger, InvalidJump, InvalidPart, InvalidText, NotKind, NotZone,
)
from everyzone.kinds import Kind, zone_with
from everyzone.programs import Program
from everyzone.texts import case_text, kind_of_text, kind_text, zone_of_text, zone_text
from everyzone.zones import Zone
from tests.checking import LONG, OTHERS, Checking
from tests.worlds import day_text, random_kind, random_steps, random_worlds

NOT_ZONES = ["", "first 0", 0, 60, *[value for value in OTHERS if not isinstance(value, Zone)]]
NOT_TEXTS = [0, 60, *OTHERS, ["jumps 60; apart 5000; most 2"], ("first 0",), Kind([60], 5000)]
WRONG_NUMBERS = ["+1", "01", "-0", "-01", "00", "--1", "1-", "", "-", "a", "1a", "1.0", "1e3", "0x1", "1_000", "1" * 31,
                 "-" + "1" * 31, "None", "True", "1,", "1;"]


def plain_case(**parts):
    """A case with these parts and others that are right."""
    told = {"jumps": {}, "bounds": [], "answers": ((0, 5),), "example": (Zone(0), 0), **parts}
    return told["jumps"], told["bounds"], told["answers"], told["example"]


class Kinds(Checking):
    def test_example_of_the_document(self):
        self.assertEqual(kind_text(kind_of_text("jumps 60 -60; apart 9000; most 1")), "jumps -60 60; apart 9000; most 1")

    def test_by_hand(self):
        told = {"jumps 60; apart 5000; most 2": Kind([60], 5000), "jumps -720 -1 1 720; apart 1441; most 0": Kind(
            [1, 720, -720, -1], 1441, 0), f"jumps -1; apart {LONG}; most 3": Kind([-1], LONG, 3)}
        for text, kind in told.items():
            self.assertEqual(kind_text(kind), text)
            self.assertEqual(kind_of_text(text), kind)

    def test_there_and_back(self):
        rng = random.Random(131)
        for count in range(200):
            kind = random_kind(rng)
            text = kind_text(kind)
            self.assertEqual(kind_of_text(text), kind)
            self.assertEqual(kind_text(kind_of_text(text)), text)

    def test_jumps_in_any_order(self):
        for jumps in itertools.permutations([60, -60, 7, -7]):
            text = f"jumps {' '.join(map(str, jumps))}; apart 5000; most 2"
            self.assertEqual(kind_of_text(text), Kind([60, -60, 7, -7], 5000))

    def test_wrong_forms(self):
        good = "jumps 60 -60; apart 5000; most 2"
        texts = ["", " ", ";", "; ; ", "jumps", good + " ", " " + good, good + ";", good + "; ", good + "\n", "\n" + good,
                 good.replace("jumps", "jump"), good.replace("jumps", "Jumps"), good.replace("; ", ";"),
                 good.replace("; ", " ; "), good.replace("; ", ";  "), good.replace("; ", "\n"), good.replace("; ", ", "),
                 "jumps; apart 5000; most 2", "jumps ; apart 5000; most 2", "jumps 60; apart; most 2", "jumps 60; apart 5000",
                 "jumps 60; most 2", "apart 5000; most 2", "jumps 60; apart 5000; most", "jumps 60; most 2; apart 5000",
                 "apart 5000; jumps 60; most 2", "jumps 60; apart 5000; apart 5000; most 2", "jumps 60; jumps 60; apart 5000; most 2",
                 "jumps 60; apart 5000; most 2; most 2", "jumps 60; apart 5000 5000; most 2", "jumps 60; apart 5000; most 2 2",
                 "60; apart 5000; most 2", "jumps 60; 5000; 2", "jumps 60 apart 5000 most 2", good + "; " + good]
        for number in WRONG_NUMBERS:
            texts += [f"jumps {number}; apart 5000; most 2", f"jumps 60 {number}; apart 5000; most 2",
                      f"jumps {number} 60; apart 5000; most 2", f"jumps 60; apart {number}; most 2",
                      f"jumps 60; apart 5000; most {number}"]
        for blank in re.finditer(" ", good):
            texts += [good[:blank.start()] + more + good[blank.start():] for more in (" ", "\n", "x")]
        for text in texts:
            self.refused(InvalidText, text, kind_of_text, text)

    def test_what_a_kind_refuses(self):
        for text, error, value in (
                ("jumps 721; apart 5000; most 2", InvalidJump, 721), ("jumps 60 0; apart 5; most 9", InvalidJump, 0),
                ("jumps 60 -721 60; apart 5000; most 2", InvalidJump, -721), ("jumps 60 7 60; apart 5; most 9", Duplicate, 60),
                ("jumps 60; apart 120; most 9", InvalidInteger, 120), ("jumps 60; apart -121; most 2", InvalidInteger, -121),
                ("jumps 60; apart 121; most 4", InvalidInteger, 4), ("jumps 60; apart 121; most -1", InvalidInteger, -1),
                (f"jumps 60; apart 121; most {LONG}", InvalidInteger, LONG),
                ("jumps 1 2 3 4 5; apart 121; most 2", InvalidPart, [1, 2, 3, 4, 5]),
                ("jumps 1 1 1 1 1; apart 1; most 2", InvalidPart, [1, 1, 1, 1, 1])):
            with self.assertRaises(error) as caught:
                kind_of_text(text)
            self.assertEqual(list(vars(caught.exception).values()), [value])

    def test_integers_of_thirty_digits(self):
        text = f"jumps 60; apart {LONG}; most 1"
        self.assertEqual(kind_of_text(text), Kind([60], LONG, 1))
        text = f"jumps 60; apart {LONG + 1}; most 1"
        self.refused(InvalidText, text, kind_of_text, text)

    def test_wrong_arguments(self):
        for value in NOT_TEXTS:
            self.refused(InvalidText, value, kind_of_text, value)
        for value in [*NOT_ZONES, Zone(0)]:
            self.refused(NotKind, value, kind_text, value)
        self.assertEqual(kind_text(kind=Kind([1], 3)), "jumps 1; apart 3; most 2")
        self.assertEqual(kind_of_text(text="jumps 1; apart 3; most 2"), Kind([1], 3))


class Zones(Checking):
    def test_by_hand(self):
        told = {
            "first 0": Zone(0), "first -75": Zone(-75), f"first {LONG}": Zone(LONG),
            "first 60\nchange 10000 120\nchange 300000 60": Zone(60, [(10000, 120), (300000, 60)]),
            "first 0\nchange -5 1\nchange 0 0": Zone(0, [(-5, 1), (0, 0)]),
            f"first {-LONG}\nchange {-LONG} {1 - LONG}": Zone(-LONG, [(-LONG, 1 - LONG)]),
        }
        for text, zone in told.items():
            self.assertEqual(zone_text(zone), text)
            self.assertEqual(zone_of_text(text), zone)

    def test_there_and_back(self):
        rng = random.Random(132)
        zones = [zone_with(rng.randint(-999, 999), random_steps(rng, random_kind(rng), [0, 5000])) for count in range(200)]
        for zone in [*zones, Zone(0, [(1000 * count, count % 2) for count in range(1, 21)])]:
            self.assertEqual(zone_of_text(zone_text(zone)), zone)

    def test_wrong_forms(self):
        good = "first 60\nchange 10000 120\nchange 300000 60"
        texts = ["", " ", "\n", "first", "first ", "first 60 60", "60", "First 60", "firsts 60", " first 60", "first 60 ",
                 good + "\n", "\n" + good, good + " ", good.replace("\n", "\n\n"), good.replace("\n", " \n"),
                 good.replace("\n", "\n "), good.replace("\n", "; "), good.replace("\n", " "), good.replace("\n", "\r\n"),
                 good.replace("change", "Change"), good.replace("change", "changes"), good.replace("change ", ""),
                 "change 10000 120", "change 10000 120\nfirst 60", "first 60\nfirst 60", "first 60\nchange 10000",
                 "first 60\nchange", "first 60\nchange 10000 120 180", "first 60\nchange 10000 120 change 300000 60",
                 "first 60\n10000 120", good + "\nfirst 60", good + "\nlast 60"]
        for number in WRONG_NUMBERS:
            texts += [f"first {number}", f"first 0\nchange {number} 60", f"first 0\nchange 60 {number}",
                      f"first 0\nchange 5 1\nchange {number} 0"]
        for blank in re.finditer("[ \n]", good):
            texts += [good[:blank.start()] + more + good[blank.start():] for more in (" ", "\n", "x")]
        for text in texts:
            self.refused(InvalidText, text, zone_of_text, text)

    def test_what_a_zone_refuses(self):
        for text, item in (("first 60\nchange 5 60", (5, 60)), ("first 0\nchange 5 721", (5, 721)),
                           ("first 0\nchange 5 60\nchange 5 0", (5, 0)), ("first 0\nchange 5 60\nchange 125 0", (125, 0)),
                           ("first 0\nchange 5 60\nchange 4 0\nchange 3 0", (4, 0))):
            with self.assertRaises(InvalidChange) as caught:
                zone_of_text(text)
            self.assertEqual(caught.exception.value, item)
        self.assertEqual(zone_of_text("first 0\nchange 5 60\nchange 126 0"), Zone(0, [(5, 60), (126, 0)]))
        wrong = "first 0\nchange 5 0\nchange 6"
        self.refused(InvalidText, wrong, zone_of_text, wrong)

    def test_wrong_arguments(self):
        for value in NOT_TEXTS:
            self.refused(InvalidText, value, zone_of_text, value)
        for value in [*NOT_ZONES, Kind([60], 5000)]:
            self.refused(NotZone, value, zone_text, value)
        self.assertEqual(zone_text(zone=Zone(5)), "first 5")
        self.assertEqual(zone_of_text(text="first 5"), Zone(5))


class Cases(Checking):
    def test_example_of_the_document(self):
        case = ({"next1": 60}, [("next1", "start", 1380)], ((0, 5), True, (-1, -7)), (Zone(0), 0))
        self.assertEqual(case_text(case), "next1 jumps 60; next1 - start <= 1380; answers 5 true -time-7")

    def test_each_form_of_an_answer(self):
        for answer, text in ((True, "true"), (False, "false"), ((0, 5), "5"), ((0, 0), "0"), ((0, -5), "-5"),
                             ((1, 5), "time+5"), ((1, 0), "time+0"), ((1, -5), "time-5"), ((-1, 5), "-time+5"),
                             ((-1, 0), "-time+0"), ((-1, -5), "-time-5"), ((1, LONG), f"time+{LONG}"),
                             ((-1, -LONG), f"-time-{LONG}"), ((0, -LONG), str(-LONG))):
            self.assertEqual(case_text(plain_case(answers=(answer,))), f"answers {text}")
            self.assertEqual(case_text(plain_case(answers=(answer, True, answer))), f"answers {text} true {text}")
        self.assertEqual(case_text(plain_case(answers=("fails", 3))), "fails 3")
        self.assertEqual(case_text(plain_case(answers=("fails", LONG))), f"fails {LONG}")

    def test_jumps_in_the_order_of_the_names(self):
        names = ["last3", "last2", "last1", "next1", "next2", "next3"]
        for order in itertools.permutations(range(6)):
            told = case_text(plain_case(jumps={names[place]: place - 3 for place in order}))
            parts = [f"{name} jumps {place - 3}" for place, name in enumerate(names)]
            self.assertEqual(told, "; ".join([*parts, "answers 5"]))
        told = case_text(plain_case(jumps={"next2": -60, "last1": LONG}, answers=("fails", 1)))
        self.assertEqual(told, f"last1 jumps {LONG}; next2 jumps -60; fails 1")

    def test_bounds_in_their_order(self):
        bounds = [("start", "midnight", 0), ("last3", "next3", -5), ("start", "midnight", LONG), ("midnight", "start", -LONG)]
        parts = [f"{x} - {y} <= {n}" for x, y, n in bounds]
        for order in itertools.permutations(range(4)):
            told = case_text(plain_case(bounds=[bounds[place] for place in order], jumps={"next1": 1}))
            self.assertEqual(told, "; ".join(["next1 jumps 1", *[parts[place] for place in order], "answers 5"]))

    def test_the_example_is_left_out(self):
        one, other = plain_case(example=(Zone(5), 7)), plain_case(example=(Zone(0, [(5, 60)]), -LONG))
        self.assertEqual(case_text(one), case_text(other))

    def parsed(self, text):
        """The jumps, bounds and answers of a text of a case."""
        *parts, last = text.split("; ")
        jumps, bounds = {}, []
        for part in parts:
            words = part.split(" ")
            if words[1] == "jumps":
                jumps[words[0]] = int(words[2])
            else:
                bounds.append((words[0], words[2], int(words[4])))
        word, *told = last.split(" ")
        if word == "fails":
            return jumps, bounds, ("fails", int(told[0]))
        return jumps, bounds, tuple(self.parsed_answer(item) for item in told)

    def parsed_answer(self, item):
        if item in ("true", "false"):
            return item == "true"
        sign = 0 if "time" not in item else -1 if item.startswith("-time") else 1
        return sign, int(item.split("time")[-1])

    def test_there_and_back(self):
        for rng, program, kind in random_worlds(132, 60):
            for case in cases(program, kind)[:50]:
                self.assertEqual(self.parsed(case_text(case)), case[:3])

    def test_wrong_arguments(self):
        case = plain_case(jumps={"next1": 60}, bounds=[("next1", "start", 5)])
        wrong = [[*case], case[:3], (*case, 0), plain_case(bounds=(("next1", "start", 5),)), plain_case(answers=[(0, 5)]),
                 plain_case(answers=([0, 5],)), plain_case(bounds=[["next1", "start", 5]]), plain_case(example=[Zone(0), 0]),
                 plain_case(answers=((0, 5),) * 5), plain_case(answers=()), plain_case(bounds=[("next1", "start", 5)] * 201),
                 plain_case(jumps={"next1": True}), plain_case(answers=("fails", 0)), *OTHERS, "answers 5", 5]
        for value in wrong:
            self.refused(InvalidCase, value, case_text, value)
        self.assertEqual(case_text(case=case), "next1 jumps 60; next1 - start <= 5; answers 5")

    def test_longest_cases(self):
        told = case_text(plain_case(bounds=[("next1", "start", 5)] * 200))
        self.assertEqual(told, "; ".join(["next1 - start <= 5"] * 200 + ["answers 5"]))
        for case in cases(Program(day_text("strict")), Kind([60, -60], LONG, 3)):
            self.assertNotIn("example", case_text(case))


if __name__ == "__main__":
    unittest.main()
