"""Each day at one time [4, 111, 112, 113], and what holds for all arguments [6, 7, 8, 9, 10, 11]."""

import itertools
import unittest

from everyzone.daily import daily, daily_list, most_touched, span_shown, spans, touched_days
from everyzone.errors import InvalidInteger, InvalidRule, InvalidTime, InvalidWord, NotKind, NotZone
from everyzone.kinds import Kind, zone_with
from everyzone.zones import Zone
from tests.checking import LONG, NOT_INTEGERS, OTHERS, Checking, moments_by_hand
from tests.worlds import RULES

ZONE = Zone(0, [(1500, 60), (100000, 0)])
KIND = Kind([60, -60], 5000)
NOT_OBJECTS = ["", "kind", 0, 60, *[value for value in OTHERS if not isinstance(value, Zone)]]
NOT_RULES = ["", "Ahead", "ahead ", "gap", "aheadbehind", 0, *OTHERS, ["ahead"], ("ahead",)]
NOT_WORDS = ["", "Gap", "gap ", "ahead", "none", 0, *OTHERS[1:], ["gap"], ("gap",)]

# First offsets and changes of zones that are looked at minute by minute.
ZONES = [
    (0, []),
    (-75, [(-3000, -15)]),
    (60, [(1500, 120), (2000, 60)]),
    (0, [(-1441, 720), (1439, 0)]),
    (5, [(-10, 6), (-7, 5), (0, 7), (6, 4)]),
    (0, [(-2880, -60), (-1000, 0), (1000, -60), (3000, 660)]),
]


class Days(Checking):
    def test_examples_of_the_document(self):
        told = [daily_list(ZONE, 90, "ahead", 0, 3), daily(ZONE, 90, "behind", 1), touched_days(ZONE, 90)]
        self.assertEqual(told, [[90, 1530, 2910], 1470, [(1, "gap")]])

    def test_gap_and_fold_by_hand(self):
        told = {"ahead": [90, 1530, 2910], "behind": [90, 1470, 2910], "strict": [90, None, 2910]}
        for rule, moments in told.items():
            self.assertEqual(daily_list(ZONE, 90, rule, 0, 3), moments)
        # The fold has the readings from 100000 on, of the day 69, up to 100059.
        for time, ahead, behind in ((640, 99940, 100000), (699, 99999, 100059), (639, 99939, 99939), (700, 100060, 100060)):
            self.assertEqual(daily(ZONE, time, "ahead", 69), ahead)
            self.assertEqual(daily(ZONE, time, "behind", 69), behind)
            self.assertEqual(daily(ZONE, time, "strict", 69), ahead if ahead == behind else None)
            self.assertEqual(touched_days(ZONE, time), [(69, "fold")] if ahead != behind else [])

    def test_minute_by_minute(self):
        for first, changes in ZONES:
            zone, moments = Zone(first, changes), moments_by_hand(first, changes, -6000, 6000)
            for time in (*range(0, 1440, 37), 59, 60, 61, 719, 720, 1439):
                touched = []
                for day in range(-4, 4):
                    found = moments[1440 * day + time]
                    word = {0: "gap", 1: None, 2: "fold"}[len(found)]
                    touched += [(day, word)] if word else []
                    placed = {"ahead": found[0], "behind": found[-1]} if found else {}
                    self.assertEqual(daily(zone, time, "strict", day), found[0] if len(found) == 1 else None)
                    for rule in ("ahead", "behind"):
                        moment = daily(zone, time, rule, day)
                        self.assertEqual(moment, zone.place(1440 * day + time, rule))
                        self.assertEqual(moment, placed.get(rule, moment))
                self.assertEqual(touched_days(zone, time), touched)

    def test_lists_are_the_days_one_after_another(self):
        for rule in RULES:
            for day in (-3, 0, 1, 68, -10 ** 30, 10 ** 30):
                for many in (0, 1, 5, 199, 200):
                    told = daily_list(ZONE, 90, rule, day, many)
                    self.assertEqual(told, [daily(ZONE, 90, rule, day + later) for later in range(many)])
                    self.assertEqual((type(told), len(told)), (list, many))
        self.assertEqual(daily(Zone(LONG), 1439, "strict", -LONG), -1440 * LONG + 1439 - LONG)

    def test_touched_beside_the_ends(self):
        zone = Zone(0, [(1438, 60), (5000, -30), (90000, 690), (100000, -30)])
        told = {1437: [], 1438: [(0, "gap")], 1439: [(0, "gap")], 0: [(1, "gap")], 57: [(1, "gap")], 58: []}
        for time, days in told.items():
            self.assertEqual([found for found in touched_days(zone, time) if found[0] < 3], days)
        # The fold has the readings 4970 to 5059, from the time 650 of the day 3 on.
        for time, days in ((649, []), (650, [(3, "fold")]), (739, [(3, "fold")]), (740, [])):
            self.assertEqual([found for found in touched_days(zone, time) if found[0] == 3], days)
        # The gap has the readings 89970 to 90689, the fold 99970 to 100689.
        for time, days in ((689, []), (690, [(62, "gap")]), (1409, [(62, "gap")]), (1410, [])):
            self.assertEqual([found for found in touched_days(zone, time) if found[0] in (62, 63)], days)
        self.assertEqual(touched_days(zone, 700), [(3, "fold"), (62, "gap"), (69, "fold")])

    def test_touched_in_zones_of_twenty_changes(self):
        zone = Zone(0, [(1440 * 10 * count, 60 * (count % 2)) for count in range(1, 21)])
        words = [(10 * count, "gap" if count % 2 else "fold") for count in range(1, 21)]
        for time in (0, 30, 59):
            self.assertEqual(touched_days(zone, time), words)
        self.assertEqual(touched_days(zone, 60), [])
        self.assertEqual(touched_days(zone.moved(1440 * 10 ** 27), 0)[0], (10 ** 27 + 10, "gap"))
        self.assertEqual(touched_days(zone.moved(-1440 * 10 ** 27), 0)[0], (10 - 10 ** 27, "gap"))

    def test_results_stay_if_moments_are_moved_and_offsets_lowered(self):
        for first, changes in ZONES:
            zone = Zone(first, changes)
            other = zone.moved(77).raised(-77)
            later = zone.raised(1440 * 5)
            for time in range(0, 1440, 97):
                self.assertEqual(touched_days(other, time), touched_days(zone, time))
                self.assertEqual(touched_days(later, time), [(day + 5, word) for day, word in touched_days(zone, time)])
                for rule in RULES:
                    moments = daily_list(zone, time, rule, -3, 7)
                    told = daily_list(other, time, rule, -3, 7)
                    self.assertEqual(told, [None if moment is None else moment + 77 for moment in moments])
                    self.assertEqual(daily_list(later, time, rule, 2, 7), moments)


def small_zones(kind, days):
    """Zones of a kind whose first change is at 0, and readings that are near a change, or days ahead of one."""
    near = range(-2 * max(map(abs, kind.jumps)) - 3, 2 * max(map(abs, kind.jumps)) + 4)
    for many in range(kind.most + 1):
        for more in itertools.product((0, 1, 5), repeat=max(many - 1, 0)):
            moments = [0, *[kind.apart * place + sum(more[:place]) for place in range(1, many)]][:many]
            for jumps in itertools.product(kind.jumps, repeat=many):
                zone = zone_with(0, list(zip(moments, jumps)))
                ends = [0, moments[-1] - 1440 * days] if moments else [0]
                yield zone, sorted({end + beside for end in ends for beside in near})


class Spans(Checking):
    def check_shown(self, kind, rule, days, span):
        told = span_shown(kind, rule, days, span)
        self.assertIs(type(told), tuple)
        zone, time, day = told
        self.assertTrue(kind.has(zone))
        one, other = daily(zone, time, rule, day), daily(zone, time, rule, day + days)
        self.assertIsNotNone(one)
        self.assertEqual(other - one, span)

    def check_spans(self, kind, rule, days):
        """What is told is shown, and there is no other difference in many zones."""
        found = set()
        for zone, readings in small_zones(kind, days):
            for reading in readings:
                one, other = zone.place(reading, rule), zone.place(reading + 1440 * days, rule)
                if one is not None and other is not None:
                    found.add(other - one)
        told = spans(kind, rule, days)
        self.assertIs(type(told), list)
        self.assertEqual(told, sorted(found), (kind.jumps, kind.apart, kind.most, rule, days))
        for span in told:
            self.check_shown(kind, rule, days, span)
        for span in {told[0] - 1, told[-1] + 1, 0, -told[0], LONG, *[span + 1 for span in told]} - found:
            self.assertIsNone(span_shown(kind, rule, days, span))

    def test_examples_of_the_document(self):
        told = [spans(KIND, "ahead", 1), spans(Kind([60], 5000), "behind", 10 ** 20), spans(KIND, "strict", 9)]
        day = 1440 * 10 ** 20
        self.assertEqual(told, [[1380, 1440, 1500], [day - 120, day - 60, day], [12840, 12900, 12960, 13020, 13080]])

    def test_small_kinds(self):
        for rule in RULES:
            for kind in (Kind([2, -1], 5, 3), Kind([-3], 7, 2), Kind([1], 3, 3), Kind([2, -2], 700, 3), Kind([3, -1], 1430, 2)):
                for days in (1, 2, 3):
                    self.check_spans(kind, rule, days)

    def test_no_changes_and_one(self):
        for rule in RULES:
            for days in (1, 7, 10 ** 20):
                self.assertEqual(spans(Kind([3, -2], 9, 0), rule, days), [1440 * days])
                self.assertEqual(spans(Kind([3, -2], 9, 1), rule, days), [1440 * days - 3, 1440 * days, 1440 * days + 2])
                self.check_shown(Kind([3, -2], 9, 0), rule, days, 1440 * days)

    def test_just_as_many_days_as_changes_need_and_one_less(self):
        seen = set()
        for rule in RULES:
            for days in (1, 2, 5, 10 ** 20):
                for many in (2, 3):
                    for beside in range(-7, 8):
                        kind = Kind([3, -2], 1440 * days // (many - 1) + beside, many)
                        self.check_spans(kind, rule, days)
                        seen.add((rule, days, many, len(spans(kind, rule, days))))
        self.assertGreater(len(seen), 60)

    def test_days_of_a_kind_with_far_changes(self):
        # Two changes need 5000 minutes, three of them 10000; four days have 5760, eight 11520.
        for rule in RULES:
            self.assertEqual([len(spans(KIND, rule, days)) for days in (1, 2, 3, 4, 10 ** 20)], [3, 3, 3, 5, 5])
            kind = Kind([60, -60], 5000, 3)
            self.assertEqual([len(spans(kind, rule, days)) for days in (1, 3, 4, 6, 8, 10 ** 20)], [3, 3, 5, 5, 7, 7])
        for rule in RULES:
            self.assertEqual(len(spans(Kind([60, -60], LONG, 3), rule, LONG // 1440)), 3)
            self.assertEqual(len(spans(Kind([60, -60], LONG, 3), rule, LONG // 1440 + 1)), 5)

    def test_zones_that_change_at_any_minute(self):
        for rule in RULES:
            for jump in (60, -60, 720, -720):
                kind, found = Kind([jump], 5000, 1), set()
                for moment in range(-800, 2300, 3):
                    zone = zone_with(0, [(moment, jump)])
                    one, other = zone.place(0, rule), zone.place(1440, rule)
                    found.update([] if one is None or other is None else [other - one])
                self.assertEqual(spans(kind, rule, 1), sorted(found))

    def test_wider_kinds_have_more_spans(self):
        for rule in RULES:
            for days in (1, 3, 4, 7, 10 ** 20):
                for narrow, wide in ((Kind([60], 5000), KIND), (KIND, Kind([60, -60], 4000)),
                                     (KIND, Kind([60, -60], 5000, 3)), (KIND, Kind([60, -60, 30, 1], 1000, 3))):
                    self.assertTrue(set(spans(narrow, rule, days)) <= set(spans(wide, rule, days)))


def days_needed(kind, word):
    """For each number of changes that touch a reading the least number of days, found by trying moments of changes."""
    need = {0: 1}
    right = {None: lambda jump: True, "gap": lambda jump: jump > 0, "fold": lambda jump: jump < 0}[word]

    def touched(reading, moment, before, jump):
        """How many days later the change touches the reading, or None."""
        far = reading - moment - min(before, before + jump)
        return -(far // 1440) if far % 1440 < abs(jump) and right(jump) else None

    def go_on(reading, last, before, left, days):
        """Try all further changes up to a bit more than a day behind the nearest moment for one."""
        for count in range(1, len(days) + 1):
            need[count] = min(need.get(count, 10 ** 40), days[count - 1] + 1)
        for moment in range(last + kind.apart, last + kind.apart + 1445) if left else []:
            for jump in kind.jumps:
                day = touched(reading, moment, before, jump)
                if day is not None:
                    go_on(reading, moment, before + jump, left - 1, [*days, day])

    for jump in kind.jumps if kind.most else []:
        for reading in range(min(jump, 0), max(jump, 0)):
            if right(jump):
                go_on(reading, 0, jump, kind.most - 1, [0])
    return need


class Touched(Checking):
    def check_touched(self, kind, days, word, number):
        told = most_touched(kind, days, word)
        self.assertIs(type(told), tuple)
        count, zone, time, day = told
        self.assertEqual(count, number, (kind.jumps, kind.apart, kind.most, days, word))
        self.assertTrue(kind.has(zone))
        found = [other for other, torn in touched_days(zone, time) if word in (None, torn) and day <= other < day + days]
        self.assertEqual(len(found), number)

    def test_examples_of_the_document(self):
        told = [most_touched(KIND, 1)[0], most_touched(KIND, 5, "gap")[0], most_touched(KIND, 3)[0],
                most_touched(Kind([60], 5000, 0), 9)[0]]
        self.assertEqual(told, [1, 2, 1, 0])

    def test_days_that_are_needed(self):
        kinds = [Kind([2, -1], 5, 3), Kind([1], 3, 2), Kind([-3], 1438, 3), Kind([3, -2], 1442, 3), Kind([2, -2], 2880, 2),
                 Kind([3], 1437, 3), Kind([3, -1, 2, -2], 1440, 3), Kind([3, -3], 719, 3), Kind([4, -4], 1500, 1),
                 Kind([4], 1500, 0)]
        seen = set()
        for kind in kinds:
            for word in ("gap", "fold", None):
                need = days_needed(kind, word)
                for days in sorted({1, 2, 3, 4, 10 ** 20, *need.values(), *[least - 1 for least in need.values()]} - {0}):
                    number = max(count for count, least in need.items() if least <= days)
                    self.check_touched(kind, days, word, number)
                    seen.add((word, number))
        self.assertEqual(len(seen), 12)

    def test_least_times_beside_whole_days(self):
        for jumps in ([2, -1], [2], [-2], [1], [-1]):
            for apart in (*range(1433, 1448), 2880, 2881):
                kind = Kind(jumps, apart, 3)
                need = days_needed(kind, None)
                for count, least in list(need.items())[1:]:
                    self.check_touched(kind, least, None, count)
                    if least > 1:
                        self.check_touched(kind, least - 1, None, count - 1)

    def test_by_hand(self):
        # From the end of a fold of 60 minutes to the beginning of the next one 60 + 59 minutes more pass than by days.
        for apart, days in ((1440 + 119, 2), (1440 + 120, 3), (2880 + 119, 3), (2880 + 120, 4)):
            self.check_touched(Kind([-60], apart, 2), days, None, 2)
            self.check_touched(Kind([-60], apart, 2), days - 1, "fold", 1)
            self.check_touched(Kind([-60], apart, 2), days, "gap", 0)
        # In three folds this is so twice only by half: the moment of the second one is the same for both.
        for apart, days in ((1529, 3), (1530, 4), (1440 * 2 + 89, 5), (1440 * 2 + 90, 6)):
            self.check_touched(Kind([-60], apart, 3), days, None, 3)
            self.check_touched(Kind([-60], apart, 3), days - 1, None, 2)
        for apart, days in ((LONG, LONG // 1440 + 2), (1440 * 10 ** 20, 10 ** 20 + 1)):
            self.check_touched(Kind([-60], apart, 2), days, None, 2)
            self.check_touched(Kind([-60], apart, 2), days - 1, None, 1)

    def test_words(self):
        for days in (1, 5, 10 ** 20):
            self.check_touched(Kind([60, 30], 5000, 3), days, "fold", 0)
            self.check_touched(Kind([-60, -1], 5000, 3), days, "gap", 0)
            self.check_touched(Kind([60, -60], 5000, 0), days, None, 0)
            self.check_touched(Kind([60, -60], 5000, 1), days, "fold", 1)
        for word in (None, "gap", "fold"):
            self.check_touched(Kind([60, -60], 5000, 3), 10 ** 20, word, 3)
            self.check_touched(Kind([60, -60], 5000, 2), 10 ** 20, word, 2)


class Arguments(Checking):
    def test_new_lists(self):
        self.returns_new_lists(lambda: daily_list(ZONE, 90, "ahead", 0, 3))
        self.returns_new_lists(lambda: touched_days(ZONE, 90))
        self.returns_new_lists(lambda: spans(KIND, "ahead", 1))

    def test_the_same_answers_for_equal_arguments(self):
        self.assertEqual(most_touched(Kind((-60, 60), 5000), 9), most_touched(KIND, 9))
        self.assertEqual(most_touched(KIND, 9), most_touched(KIND, 9, None))
        self.assertEqual(span_shown(Kind((-60, 60), 5000), "ahead", 9, 12900), span_shown(KIND, "ahead", 9, 12900))

    def test_by_name(self):
        self.assertEqual(daily(day=1, rule="behind", time=90, zone=ZONE), 1470)
        self.assertEqual(daily_list(many=2, day=0, rule="ahead", time=90, zone=ZONE), [90, 1530])
        self.assertEqual(touched_days(time=90, zone=ZONE), [(1, "gap")])
        self.assertEqual(spans(days=1, rule="ahead", kind=KIND), [1380, 1440, 1500])
        self.assertEqual(span_shown(span=1380, days=1, rule="ahead", kind=KIND), span_shown(KIND, "ahead", 1, 1380))
        self.assertEqual(most_touched(word="gap", days=5, kind=KIND), most_touched(KIND, 5, "gap"))
        self.assertEqual(most_touched(days=5, kind=KIND), most_touched(KIND, 5))

    def test_wrong_arguments_of_days(self):
        good = {"zone": ZONE, "time": 90, "rule": "ahead", "day": 0}
        wrong = [("zone", NotZone, [*NOT_OBJECTS, KIND]), ("time", InvalidTime, [-1, 1440, LONG, *NOT_INTEGERS]),
                 ("rule", InvalidRule, NOT_RULES), ("day", InvalidInteger, NOT_INTEGERS)]
        self.refused_in_order(daily, good, wrong)
        wrong.append(("many", InvalidInteger, [-1, 201, LONG, -LONG, *NOT_INTEGERS]))
        self.refused_in_order(daily_list, {**good, "many": 3}, wrong)
        self.refused_in_order(touched_days, {"zone": ZONE, "time": 90}, wrong[:2])

    def test_wrong_arguments_of_kinds(self):
        numbers = [0, -1, -LONG, *NOT_INTEGERS]
        wrong = [("kind", NotKind, [*NOT_OBJECTS, ZONE]), ("rule", InvalidRule, NOT_RULES), ("days", InvalidInteger, numbers)]
        self.refused_in_order(spans, {"kind": KIND, "rule": "ahead", "days": 1}, wrong)
        wrong.append(("span", InvalidInteger, NOT_INTEGERS))
        self.refused_in_order(span_shown, {"kind": KIND, "rule": "ahead", "days": 1, "span": 1440}, wrong)
        wrong = [wrong[0], wrong[2], ("word", InvalidWord, NOT_WORDS)]
        self.refused_in_order(most_touched, {"kind": KIND, "days": 1, "word": "gap"}, wrong)


if __name__ == "__main__":
    unittest.main()
