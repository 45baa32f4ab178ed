"""What holds over all modules [6, 8, 9, 11]: arguments by name, lists and tuples, new lists, the same answers again."""

import unittest

from everyzone.bounds import holds, settle, shows_ring, tightest
from everyzone.cases import answers_in, cases, is_case, meets
from everyzone.comparing import alike, needless, parting, safe_rules
from everyzone.daily import daily, daily_list, most_touched, span_shown, spans, touched_days
from everyzone.faults import failing, failing_lines, faults, meeting, most_faults
from everyzone.kinds import Kind, outside, zone_with
from everyzone.logs import change_stretches, changes_between, fits, fitting, fitting_with, offsets_at, shortest_clash
from everyzone.outcomes import greatest, least, showing, sure, together, values_of
from everyzone.programs import Program
from everyzone.running import met, run, values
from everyzone.session import Session
from everyzone.texts import case_text, kind_of_text, kind_text, zone_of_text, zone_text
from everyzone.words import day_of, is_integer, is_name, is_time, reading_of, time_from, time_of, time_text
from everyzone.zones import Zone, unlike_at
from tests.checking import LONG, Checking, containers
from tests.test_package import FUNCTIONS, METHODS
from tests.worlds import day_text, random_place, random_worlds

ZONE = Zone(60, [(10000, 120), (300000, 60)])
KIND = Kind([60, -60], 5000, 3)
STRICT = Program(day_text("strict"))
AHEAD = Program(day_text("ahead"))
LOG = [(0, 60), (10000, 10120), (20000, 20060)]
BOUNDS = [("a", "b", -5), ("b", "c", 3), ("c", "a", 9)]
RING = [*BOUNDS, ("c", "a", 1)]
CASE = ({"next1": 60}, [("next1", "start", 10000)], ((0, 5), True, (-1, -7)), (Zone(0), 0))


def session():
    """A session in which something was said."""
    made = Session(KIND, STRICT)
    made.say("most 2")
    return made


# Each function, and each method of an object that is made anew, with its arguments by name.
CALLS = [
    (is_integer, {"value": 5, "low": 0, "high": 9}), (is_name, {"value": "now"}), (is_time, {"value": 1439}),
    (day_of, {"reading": -1}), (time_of, {"reading": -1}), (reading_of, {"day": 2, "time": 90}), (time_text, {"time": 90}),
    (time_from, {"text": "23:59"}), (Zone, {"offset": 60, "changes": [(5, 61)]}), (Zone, {"offset": 60}),
    (unlike_at, {"one": ZONE, "other": Zone(0)}), (ZONE.changes, {}), (ZONE.jump_list, {}), (ZONE.offset_at, {"moment": 9}),
    (ZONE.read, {"moment": 9}), (ZONE.moments_of, {"reading": 300070}), (ZONE.gaps, {}), (ZONE.folds, {}),
    (ZONE.place, {"reading": 10100, "rule": "behind"}), (ZONE.moved, {"minutes": 5}), (ZONE.raised, {"minutes": 5}),
    (ZONE.until, {"moment": 10000}), (ZONE.since, {"moment": 10000}), (Kind, {"jumps": [60, -60], "apart": 5000, "most": 3}),
    (Kind, {"jumps": [60, -60], "apart": 5000}), (KIND.has, {"zone": ZONE}), (KIND.why_not, {"zone": Zone(0, [(5, 30)])}),
    (zone_with, {"offset": 60, "steps": [(5, 1)]}), (outside, {"one": KIND, "other": Kind([60], 5000)}),
    (Program, {"text": str(STRICT)}), (STRICT.lines, {}), (STRICT.answers, {}), (STRICT.kind_of, {"name": "m"}),
    (STRICT.reach, {}), (run, {"program": AHEAD, "zone": ZONE, "start": 8600}),
    (values, {"program": AHEAD, "zone": ZONE, "start": 8600}), (met, {"program": AHEAD, "zone": ZONE, "start": 8600}),
    (run, {"program": STRICT, "zone": ZONE, "start": 8600}), (settle, {"bounds": BOUNDS}), (settle, {"bounds": RING}),
    (holds, {"bounds": BOUNDS, "values": {"a": 0, "b": 5, "c": 2}}), (shows_ring, {"bounds": RING, "ring": [1, 3, 0]}),
    (tightest, {"bounds": BOUNDS, "x": "a", "y": "c"}), (cases, {"program": STRICT, "kind": KIND}),
    (meets, {"case": CASE, "zone": ZONE, "start": 0}), (answers_in, {"case": CASE, "time": 9}), (is_case, {"value": CASE}),
    (values_of, {"program": AHEAD, "kind": KIND, "index": 0}),
    (showing, {"program": AHEAD, "kind": KIND, "index": 0, "value": 1380}),
    (least, {"program": AHEAD, "kind": KIND, "index": 0}), (greatest, {"program": AHEAD, "kind": KIND, "index": 0}),
    (sure, {"program": AHEAD, "kind": KIND}), (together, {"program": AHEAD, "kind": KIND, "values": [1380]}),
    (faults, {"program": STRICT, "kind": KIND}), (meeting, {"program": STRICT, "kind": KIND, "index": 3, "word": "gap"}),
    (failing, {"program": STRICT, "kind": KIND}), (failing_lines, {"program": STRICT, "kind": KIND}),
    (most_faults, {"program": STRICT, "kind": KIND}), (parting, {"one": AHEAD, "other": STRICT, "kind": KIND}),
    (alike, {"one": AHEAD, "other": STRICT, "kind": KIND}), (needless, {"program": AHEAD, "kind": KIND}),
    (safe_rules, {"program": AHEAD, "kind": KIND, "index": 3}),
    (daily, {"zone": ZONE, "time": 30, "rule": "ahead", "day": 7}),
    (daily_list, {"zone": ZONE, "time": 30, "rule": "strict", "day": 6, "many": 3}),
    (touched_days, {"zone": ZONE, "time": 30}), (spans, {"kind": KIND, "rule": "ahead", "days": 9}),
    (span_shown, {"kind": KIND, "rule": "ahead", "days": 9, "span": 12900}), (most_touched, {"kind": KIND, "days": 9}),
    (most_touched, {"kind": KIND, "days": 9, "word": "gap"}), (fits, {"zone": ZONE, "log": LOG}),
    (fitting, {"kind": KIND, "log": LOG}), (shortest_clash, {"kind": Kind([60], 5000), "log": LOG}),
    (offsets_at, {"kind": KIND, "log": LOG, "moment": 5}),
    (fitting_with, {"kind": KIND, "log": LOG, "moment": 5000, "offset": 60}), (changes_between, {"kind": KIND, "log": LOG}),
    (change_stretches, {"kind": KIND, "log": LOG}), (kind_text, {"kind": KIND}), (zone_text, {"zone": ZONE}),
    (case_text, {"case": CASE}), (kind_of_text, {"text": "jumps 60; apart 5000; most 1"}),
    (zone_of_text, {"text": "first 5\nchange 7 9"}), (Session, {"kind": KIND, "program": STRICT}), (Session, {"kind": KIND}),
    (lambda: session().kind(), {}), (lambda: session().program(), {}), (lambda: session().text(), {}),
    (lambda: session().done(), {}), (lambda line: session().say(line), {"line": "answers 0"}),
    (lambda lines: session().say_all(lines), {"lines": ["show", "kind"]}),
]


def shape(value):
    """A value as one that tells all of it, and truths from integers."""
    if isinstance(value, (list, tuple)):
        return type(value), [shape(item) for item in value]
    if isinstance(value, dict):
        return dict, sorted((key, shape(item)) for key, item in value.items())
    if isinstance(value, Zone):
        return Zone, value.first, value.changes()
    if isinstance(value, Kind):
        return Kind, value.jumps, value.apart, value.most
    if isinstance(value, Program):
        return Program, str(value)
    if isinstance(value, Session):
        return Session, shape(value.kind()), shape(value.program()), value.text(), value.done(), len(value)
    return type(value), value


def turned(value):
    """A value with a list for each tuple and a tuple for each list."""
    if isinstance(value, (list, tuple)):
        items = [turned(item) for item in value]
        return tuple(items) if isinstance(value, list) else items
    return value


def others(value):
    """A value with a list for each tuple, or a tuple for each list, or each in the other's place."""
    def all_lists(part):
        return [all_lists(item) for item in part] if isinstance(part, (list, tuple)) else part

    def all_tuples(part):
        return tuple(all_tuples(item) for item in part) if isinstance(part, (list, tuple)) else part

    return [all_lists(value), all_tuples(value), turned(value)]


class Calls(Checking):
    def test_each_name_of_the_interface_is_called(self):
        named = {call.__name__ for call, arguments in CALLS}
        for functions in FUNCTIONS.values():
            self.assertTrue(set(functions) <= named, set(functions) - named)
        for (file, name), methods in METHODS.items():
            plain = {method for method in methods if not method.startswith("__")}
            self.assertIn(name, named)
            if name != "Session":
                self.assertTrue(plain <= named, plain - named)

    def test_by_name_and_by_position(self):
        for call, named in CALLS:
            told = shape(call(**named))
            self.assertEqual(shape(call(*named.values())), told)
            self.assertEqual(shape(call(**dict(reversed(named.items())))), told)

    def test_lists_for_tuples_and_tuples_for_lists(self):
        for call, named in CALLS:
            told = shape(call(**named))
            for name, value in named.items():
                # A ring is a list alone, and in cases lists and tuples do not stand for each other.
                if isinstance(value, (list, tuple)) and name not in ("ring", "case", "value"):
                    for other in others(value):
                        self.assertEqual(shape(call(**{**named, name: other})), told, (call, name, other))

    def test_new_lists_and_dicts(self):
        for call, named in CALLS:
            told, other = call(**named), call(**named)
            parts = containers(told) + containers(other) + [part for value in named.values() for part in containers(value)]
            self.assertEqual(len({id(part) for part in parts}), len(parts), call)

    def test_the_same_question_again(self):
        first = [shape(call(**named)) for call, named in CALLS]
        for call, named in reversed(CALLS):
            for part in containers(call(**named)):
                part.clear()
        self.assertEqual([shape(call(**named)) for call, named in CALLS], first)
        self.assertEqual([shape(call(**named)) for call, named in CALLS[::-1]], first[::-1])

    def test_arguments_stay(self):
        for call, named in CALLS:
            kept = shape(list(named.values()))
            call(**named)
            self.assertEqual(shape(list(named.values())), kept)


class Kinds(Checking):
    def test_what_holds_in_a_wider_kind(self):
        for rng, program, kind in random_worlds(11, 120):
            wider = [Kind(kind.jumps, kind.apart, min(kind.most + 1, 3)), Kind(kind.jumps, kind.apart + 1, kind.most)]
            narrow = Kind(kind.jumps[:1], kind.apart + rng.randint(0, 999), max(kind.most - 1, 0))
            for one, other in ((kind, wider[0]), (wider[1], kind), (narrow, kind), (narrow, wider[0])):
                self.assertIsNone(outside(one, other))
                self.assertTrue(set(faults(program, one)) <= set(faults(program, other)))
                self.assertTrue(set(failing_lines(program, one)) <= set(failing_lines(program, other)))
                self.assertLessEqual(most_faults(program, one)[0], most_faults(program, other)[0])
                for index, name in enumerate(program.answers()):
                    self.check_within(program, name, values_of(program, one, index), values_of(program, other, index))

    def check_within(self, program, name, found, wider):
        if program.kind_of(name) == "truth":
            self.assertTrue(set(found) <= set(wider))
        else:
            for low, high in found:
                self.assertTrue(any(least_one <= low and high <= most_one for least_one, most_one in wider))

    def test_results_may_be_passed_as_arguments(self):
        for rng, program, kind in random_worlds(12, 40):
            for case in cases(program, kind)[:20]:
                zone, start = case[3]
                self.assertTrue(is_case(case) and meets(case, zone, start) and kind.has(zone))
                answers = run(program, zone, start)
                self.assertEqual(answers_in(case, time_of(zone.read(start))), answers)
                if isinstance(answers, list):
                    self.assertIsNotNone(together(program, kind, answers))
                self.assertEqual(zone_of_text(zone_text(zone)), zone)
                self.assertIsInstance(case_text(case), str)

    def test_moved_and_raised_zones_with_starts(self):
        for rng, program, kind in random_worlds(13, 60):
            zone, start = random_place(rng, program, kind)
            for minutes, days in ((LONG, 0), (0, -10 ** 26), (-77, 10 ** 26)):
                other = zone.moved(minutes).raised(1440 * days - minutes)
                self.assertEqual(shape(run(program, other, start + minutes)), shape(run(program, zone, start)))
                self.assertEqual(met(program, other, start + minutes), met(program, zone, start))
                self.assertTrue(kind.has(other))


if __name__ == "__main__":
    unittest.main()
