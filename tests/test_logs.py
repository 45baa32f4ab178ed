"""Logs of readings [121, 122, 123, 124], and what holds for all arguments [6, 7, 8, 9, 10, 11]."""

import itertools
import random
import unittest

from everyzone.errors import InvalidEntry, InvalidInteger, InvalidLog, NotKind, NotZone
from everyzone.kinds import Kind, zone_with
from everyzone.logs import change_stretches, changes_between, fits, fitting, fitting_with, offsets_at, shortest_clash
from everyzone.zones import Zone
from tests.checking import LONG, NOT_INTEGERS, OTHERS, Checking
from tests.worlds import all_steps, random_kind, random_steps

LOG = [(0, 60), (10000, 10120), (20000, 20060)]
KIND = Kind([60, -60], 5000)
NOT_OBJECTS = ["", "kind", 0, 60, *[value for value in OTHERS if not isinstance(value, Zone)]]
SMALL_KINDS = [Kind([2, -1], 5, 2), Kind([-2], 5, 3), Kind([1, -1, 2], 5, 3), Kind([1], 3, 1), Kind([3, 1], 8, 2), Kind([3], 7, 0)]
KIND_CALLS = (fitting, shortest_clash, changes_between, change_stretches)


def log_of(zone, moments):
    """The log of a zone at some moments."""
    return [(moment, zone.read(moment)) for moment in moments]


def stretches(numbers):
    """The stretches of some integers."""
    found = []
    for number in sorted(set(numbers)):
        if found and found[-1][1] + 1 == number:
            found[-1] = (found[-1][0], number)
        else:
            found.append((number, number))
    return found


def spoilt(log, index, minutes):
    """A log with one reading otherwise."""
    return [(moment, reading + (minutes if place == index else 0)) for place, (moment, reading) in enumerate(log)]


class Logs(Checking):
    def check_fits(self, kind, log, zone):
        self.assertIsInstance(zone, Zone)
        self.assertTrue(kind.has(zone), (kind.jumps, kind.apart, kind.most, log))
        self.assertIs(fits(zone, log), True)
        self.assertTrue(all(zone.read(moment) == reading for moment, reading in log))

    def check_all(self, kind, log, zones):
        """All that is told of a log, if these are all zones of the kind that matter and fit it."""
        told = (kind.jumps, kind.apart, kind.most, log)
        found = fitting(kind, log)
        self.assertEqual(found is not None, len(zones) > 0, told)
        if found is not None:
            self.check_fits(kind, log, found)
        self.assertEqual(shortest_clash(kind, log) is None, found is not None, told)
        counts = [[len([moment for moment, offset in zone.changes() if low < moment <= high]) for zone in zones]
                  for (low, reading), (high, other) in zip(log, log[1:])]
        self.assertEqual(changes_between(kind, log), [(min(row), max(row)) for row in counts] if zones else None, told)
        moments = [moment for zone in zones for moment, offset in zone.changes() if log[0][0] < moment <= log[-1][0]]
        self.assertEqual(change_stretches(kind, log), stretches(moments), told)

    def check_offsets(self, kind, log, zones, moment):
        """What is told of a moment, if these are all zones of the kind that matter and fit the log."""
        offsets = sorted({zone.offset_at(moment) for zone in zones})
        told = (kind.jumps, kind.apart, kind.most, log, moment)
        self.assertEqual(offsets_at(kind, log, moment), offsets, told)
        for offset in {*offsets, *[offset + 1 for offset in offsets], 0, LONG}:
            zone = fitting_with(kind, log, moment, offset)
            self.assertEqual(zone is not None, offset in offsets, told)
            if zone is not None:
                self.check_fits(kind, log, zone)
                self.assertEqual(zone.offset_at(moment), offset)

    def test_examples_of_the_document(self):
        told = [fitting(KIND, LOG) is None, fitting(Kind([60], 5000), LOG), fits(Zone(60, [(9000, 120), (20000, 60)]), LOG)]
        self.assertEqual(told, [False, None, True])
        told = [offsets_at(KIND, LOG, 5000), offsets_at(KIND, LOG, 10001), offsets_at(KIND, LOG, 30000),
                offsets_at(KIND, LOG[:1], 1000000)]
        self.assertEqual(told, [[60, 120], [60, 120], [60], [-60, 0, 60, 120, 180]])
        told = [changes_between(KIND, LOG), changes_between(KIND, [(0, 0), (20000, 20000)]),
                change_stretches(KIND, [(0, 60), (3000, 3060), (20000, 20120)])]
        self.assertEqual(told, [[(1, 1), (1, 1)], [(0, 2)], [(3001, 20000)]])

    def test_all_placings_of_changes_for_small_kinds(self):
        rng, answers = random.Random(121), set()
        for kind in SMALL_KINDS:
            zones = [(zone, [zone.offset_at(moment) for moment in range(10)])
                     for zone in [zone_with(7, steps) for steps in all_steps(kind, -6, 16)]]
            for count in range(40):
                moments = sorted(rng.sample(range(10), rng.randint(1, 5)))
                log = log_of(rng.choice(zones)[0], moments)
                if count % 3 == 0:
                    log = spoilt(log, rng.randrange(len(log)), rng.choice([1, -1, 2]))
                self.check_small(kind, log, zones)
                answers.add(fitting(kind, log) is None)
        self.assertEqual(answers, {True, False})

    def check_small(self, kind, log, zones):
        """Compare with all zones, each with the first offset by which it has the first reading."""
        first = log[0][1] - log[0][0]
        fitted = []
        for zone, offsets in zones:
            hop = first - offsets[log[0][0]]
            if all(offsets[moment] + hop == reading - moment for moment, reading in log):
                fitted.append(zone.raised(hop))
        self.check_all(kind, log, fitted)
        for moment in (-1, 0, 4, 9, 10, log[0][0], log[0][0] - 1, log[-1][0] + 1):
            self.check_offsets(kind, log, fitted, moment)

    def test_logs_of_zones_of_the_kind_fit(self):
        rng = random.Random(122)
        for count in range(400):
            kind = random_kind(rng)
            zone = zone_with(rng.randint(-900, 900), random_steps(rng, kind, [0, 3000, 9000]))
            near = [moment + beside for moment, offset in zone.changes() for beside in (-1, 0, 1)]
            moments = sorted({*near, *[rng.randint(-3000, 12000) for more in range(12)]})
            log = log_of(zone, sorted(rng.sample(moments, rng.randint(1, 12))))
            self.assertIs(fits(zone, log), True)
            self.check_fits(kind, log, fitting(kind, log))
            self.assertIsNone(shortest_clash(kind, log))
            for moment in [entry[0] + beside for entry in log for beside in (-1, 0, 1)] + [-10 ** 9, 10 ** 9]:
                offset = zone.offset_at(moment)
                self.assertIn(offset, offsets_at(kind, log, moment))
                found = fitting_with(kind, log, moment, offset)
                self.check_fits(kind, log, found)
                self.assertEqual(found.offset_at(moment), offset)
            self.check_between(kind, log, zone)
            index = rng.randrange(len(log))
            self.assertIs(fits(zone, spoilt(log, index, rng.choice([1, -1, 60]))), False)

    def check_between(self, kind, log, zone):
        moments = [moment for moment, offset in zone.changes()]
        for (low, high), (one, reading), (other, more) in zip(changes_between(kind, log), log, log[1:]):
            self.assertTrue(low <= len([moment for moment in moments if one < moment <= other]) <= high)
        found = change_stretches(kind, log)
        self.assertTrue(all(one[1] + 1 < other[0] for one, other in zip(found, found[1:])))
        self.assertTrue(all(low <= high and log[0][0] < low and high <= log[-1][0] for low, high in found))
        for moment in moments:
            if log[0][0] < moment <= log[-1][0]:
                self.assertTrue(any(low <= moment <= high for low, high in found))

    def test_the_shortest_clash_has_no_clash_within_it(self):
        rng, seen = random.Random(123), set()
        for count in range(500):
            kind = random_kind(rng)
            zone = zone_with(0, random_steps(rng, kind, [0, 3000, 9000]))
            log = log_of(zone, sorted(rng.sample(range(-3000, 12000), rng.randint(2, 12))))
            for wrong in range(rng.randint(1, 3)):
                log = spoilt(log, rng.randrange(len(log)), rng.choice([1, -60, *kind.jumps]))
            told = shortest_clash(kind, log)
            clashes = [(last - first, first, last) for first in range(len(log)) for last in range(first, len(log))
                       if fitting(kind, log[first:last + 1]) is None]
            self.assertEqual(told, min(clashes)[1:] if clashes else None)
            seen.add(told[1] - told[0] if told else None)
        self.assertTrue({None, 1, 2} <= seen)

    def test_several_clashes_of_one_length(self):
        log = [(0, 0), (100, 160), (200, 200), (300, 301), (400, 400), (500, 560)]
        self.assertEqual(shortest_clash(Kind([60], 5000, 3), log), (1, 2))
        self.assertEqual(shortest_clash(Kind([60, -60], 5000, 3), log), (2, 3))
        self.assertEqual(shortest_clash(Kind([60, -60], 5000, 0), log), (0, 1))
        self.assertEqual(shortest_clash(Kind([60, -60], 5000, 3), log[:3]), (0, 2))
        self.assertEqual(shortest_clash(Kind([60, -60], 200, 2), log[:3]), (0, 2))
        self.assertIsNone(shortest_clash(Kind([60, -60], 199, 2), log[:3]))
        self.assertIsNone(shortest_clash(Kind([60, -60], 5000, 3), log[:2]))
        self.assertEqual(shortest_clash(Kind([60, -60], 5000, 3), [(0, 0), (9000, 9060), (18000, 18120), (27000, 27060),
                                                                   (36000, 36000)]), (0, 4))

    def test_an_entry_alone_never_clashes(self):
        for entry in ((0, 0), (LONG, -LONG), (-LONG, LONG)):
            for kind in (KIND, Kind([1], LONG, 0)):
                self.assertIsNone(shortest_clash(kind, [entry]))
                self.check_fits(kind, [entry], fitting(kind, [entry]))
                self.assertEqual(changes_between(kind, [entry]), [])
                self.assertEqual(change_stretches(kind, [entry]), [])
                self.assertEqual(offsets_at(kind, [entry], entry[0]), [entry[1] - entry[0]])

    def test_a_change_at_an_entry(self):
        for moment, low in ((10, 1), (9, 2)):
            log = [(0, 0), (low - 1, low - 1), (10, 70)]
            self.assertEqual(change_stretches(Kind([60], 5000), log[:1] + log[2:]), [(1, 10)])
        self.assertEqual(change_stretches(Kind([60], 5000), [(9, 9), (10, 70)]), [(10, 10)])
        self.assertEqual(change_stretches(Kind([60], 5000), [(8, 8), (10, 70)]), [(9, 10)])
        self.check_fits(Kind([60], 5000), [(9, 9), (10, 70)], Zone(0, [(10, 60)]))
        self.assertEqual(offsets_at(Kind([60], 5000), [(8, 8), (10, 70)], 9), [0, 60])

    def test_exactly_the_least_time_apart(self):
        for most in (2, 3):
            for far, told in ((5000, False), (4999, True)):
                log = [(0, 0), (1, 61), (far, far + 60), (far + 1, far + 1)]
                self.assertEqual(fitting(Kind([60, -60], 5000, most), log) is None, told)
            kind = Kind([60, -60], 5000, most)
            log = [(0, 0), (1, 61), (5000, 5060), (5001, 5001)]
            self.assertEqual(change_stretches(kind, log), [(1, 1), (5001, 5001)])
            log = [(0, 0), (2, 62), (5000, 5060), (5002, 5002)]
            self.assertEqual(change_stretches(kind, log), [(1, 2), (5001, 5002)])
            self.assertEqual(changes_between(kind, [(0, 0), (5001, 5001)]), [(0, 2)])
            self.assertEqual(changes_between(kind, [(0, 0), (5000, 5000)]), [(0, 0)])
            self.assertEqual(change_stretches(kind, [(0, 0), (5000, 5000)]), [])
            self.assertEqual(change_stretches(kind, [(0, 0), (5001, 5001)]), [(1, 1), (5001, 5001)])
            self.assertEqual(change_stretches(kind, [(0, 0), (5003, 5003)]), [(1, 3), (5001, 5003)])
            self.assertEqual(change_stretches(kind, [(0, 0), (10000, 10000)]), [(1, 10000)])
            self.assertEqual(change_stretches(kind, [(0, 0), (9999, 9999)]), [(1, 4999), (5001, 9999)])
        kind = Kind([60, -60], 5000, 3)
        self.assertEqual(fitting(kind, [(0, 0), (10000, 10180)]), None)
        self.check_fits(kind, [(0, 0), (10001, 10181)], fitting(kind, [(0, 0), (10001, 10181)]))
        self.assertEqual(changes_between(kind, [(0, 0), (10001, 10061)]), [(1, 3)])
        self.assertEqual(changes_between(kind, [(0, 0), (10000, 10060)]), [(1, 1)])

    def test_stretches_of_different_changes_that_touch_are_one(self):
        kind = Kind([60, -60], 5000)
        self.assertEqual(change_stretches(kind, [(0, 0), (10001, 10001)]), [(1, 10001)])
        self.assertEqual(change_stretches(kind, [(0, 0), (10000, 10000)]), [(1, 10000)])

    def test_jumps_that_come_to_the_same_sum(self):
        kind = Kind([30, 60, 90, -30], 181, 3)
        self.assertEqual(changes_between(kind, [(0, 0), (1000, 1090)]), [(1, 3)])
        self.assertEqual(changes_between(kind, [(0, 0), (1000, 1120)]), [(2, 3)])
        self.assertEqual(changes_between(kind, [(0, 0), (1000, 1270)]), [(3, 3)])
        self.assertIsNone(changes_between(kind, [(0, 0), (1000, 1300)]))
        self.assertEqual(offsets_at(kind, [(0, 0), (1000, 1120)], 500), [-30, 0, 30, 60, 90, 120, 150])
        self.assertEqual(offsets_at(kind, [(0, 0), (181, 301)], 90), [])
        self.assertEqual(offsets_at(kind, [(0, 0), (182, 302)], 90), [30, 60, 90])

    def test_far_ahead_of_the_first_and_far_behind_the_last_entry(self):
        kind = Kind([60, -60], 5000, 3)
        for far in (5001, 10 ** 6, LONG):
            self.assertEqual(offsets_at(KIND, LOG, -far), [60])
            self.assertEqual(offsets_at(KIND, LOG, 20000 + far), [60])
            self.assertEqual(offsets_at(kind, LOG, -far), [0, 60, 120])
            self.assertEqual(offsets_at(kind, LOG, 20000 + far), [0, 60, 120])
            self.assertEqual(offsets_at(kind, LOG[:2], -far), [-60, 0, 60, 120, 180])
            for offset in (0, 60, 120):
                for moment in (-far, 20000 + far):
                    zone = fitting_with(kind, LOG, moment, offset)
                    self.check_fits(kind, LOG, zone)
                    self.assertEqual(zone.offset_at(moment), offset)
            self.assertIsNone(fitting_with(kind, LOG, far + 20000, 180))
            self.assertIsNone(fitting_with(kind, LOG, -far, 61))
        # Of two changes behind a moment, up to 0, one is 5000 minutes earlier.
        self.assertEqual(offsets_at(kind, LOG[:2], -5000), [0, 60, 120])
        # The last change is at 10001 or later, and no change can follow before 15001.
        self.assertEqual(offsets_at(kind, LOG, 15000), [60, 120])
        self.assertEqual(offsets_at(Kind([60, -60], 5000, 1), LOG[:2], 10 ** 9), [120])

    def test_least_times_of_thirty_digits(self):
        kind = Kind([60, -60], LONG, 3)
        log = [(0, 0), (1, 61), (LONG, LONG + 60), (LONG + 1, LONG + 1), (2 * LONG + 1, 2 * LONG + 61)]
        self.check_fits(kind, log, fitting(kind, log))
        self.assertEqual(change_stretches(kind, log), [(1, 1), (LONG + 1, LONG + 1), (2 * LONG + 1, 2 * LONG + 1)])
        self.assertEqual(changes_between(kind, log), [(1, 1), (0, 0), (1, 1), (1, 1)])
        self.assertEqual(shortest_clash(kind, [(0, 0), (1, 61), (LONG - 1, LONG + 59), (LONG, LONG)]), (0, 3))
        self.assertEqual(offsets_at(kind, log, LONG * 5), [60])

    def test_zones_that_are_not_of_the_kind_may_fit(self):
        self.assertIs(fits(Zone(60, [(5, 61), (9, 60), (9000, 120), (20000, 60)]), LOG), True)
        self.assertIs(fits(Zone(60, [(9000, 120), (20001, 60)]), LOG), False)
        self.assertIs(fits(Zone(60), LOG[:1]), True)
        zone = Zone(0, [(1000 * count, count % 2) for count in range(1, 21)])
        self.assertIs(fits(zone, log_of(zone, range(900, 13000, 1010))), True)

    def test_what_fits_in_a_wider_kind(self):
        rng = random.Random(124)
        kinds = [Kind([60], 5000, 1), Kind([60], 5000), KIND, Kind([60, -60], 3000), Kind([60, -60, 30], 3000, 3)]
        for count in range(150):
            zone = zone_with(0, random_steps(rng, kinds[count % 5], [0, 3000, 9000]))
            log = log_of(zone, sorted(rng.sample(range(-3000, 12000), rng.randint(1, 6))))
            moment = rng.randint(-9000, 20000)
            told = [set(offsets_at(kind, log, moment)) for kind in kinds]
            self.assertTrue(all(one <= other for one, other in zip(told, told[1:])))

    def test_results_stay_if_moments_are_moved_or_offsets_raised(self):
        rng = random.Random(125)
        for count in range(60):
            kind = random_kind(rng)
            log = log_of(zone_with(0, random_steps(rng, kind, [0, 3000])), sorted(rng.sample(range(-999, 9999), 5)))
            log = spoilt(log, 2, rng.choice([0, 0, 60]))
            for minutes, more in ((77, -77), (-10 ** 20, 10 ** 20), (0, 1440), (0, -1440 * 10 ** 20)):
                other = [(moment + minutes, reading + minutes + more) for moment, reading in log]
                self.assertEqual(fitting(kind, other) is None, fitting(kind, log) is None)
                self.assertEqual(shortest_clash(kind, other), shortest_clash(kind, log))
                self.assertEqual(changes_between(kind, other), changes_between(kind, log))
                moved = [(low + minutes, high + minutes) for low, high in change_stretches(kind, log)]
                self.assertEqual(change_stretches(kind, other), moved)
                raised = [offset + more for offset in offsets_at(kind, log, 500)]
                self.assertEqual(offsets_at(kind, other, 500 + minutes), raised)


class Arguments(Checking):
    def test_new_lists(self):
        for call in (changes_between, change_stretches):
            self.returns_new_lists(lambda: call(KIND, LOG))
        self.returns_new_lists(lambda: offsets_at(KIND, LOG, 5000))
        self.assertEqual({type(item) for item in changes_between(KIND, LOG) + change_stretches(KIND, LOG)}, {tuple})
        self.assertIs(type(shortest_clash(Kind([60], 5000), LOG)), tuple)

    def test_lists_and_tuples(self):
        for log in (tuple(LOG), [list(entry) for entry in LOG], tuple(list(entry) for entry in LOG)):
            for call in KIND_CALLS:
                self.assertEqual(call(KIND, log), call(KIND, LOG))
                self.assertEqual(call(Kind([60], 5000), log), call(Kind([60], 5000), LOG))
            self.assertTrue(fits(fitting(KIND, LOG), log))
            self.assertEqual(offsets_at(KIND, log, 5000), [60, 120])
            self.assertEqual(fitting_with(KIND, log, 5000, 60), fitting_with(KIND, LOG, 5000, 60))

    def test_arguments_stay(self):
        log = [[0, 60], [10000, 10120]]
        for call in KIND_CALLS:
            call(KIND, log)
        offsets_at(KIND, log, 5), fitting_with(KIND, log, 5, 60), fits(Zone(0), log)
        self.assertEqual(log, [[0, 60], [10000, 10120]])

    def test_by_name(self):
        for call in KIND_CALLS:
            self.assertEqual(call(log=LOG, kind=KIND), call(KIND, LOG))
        self.assertTrue(fits(log=LOG, zone=Zone(60, [(9000, 120), (20000, 60)])))
        self.assertEqual(offsets_at(moment=5000, log=LOG, kind=KIND), [60, 120])
        found = fitting_with(offset=60, moment=5000, log=LOG, kind=KIND)
        self.assertEqual(found, fitting_with(KIND, LOG, 5000, 60))

    def calls(self):
        """Each function of the stage with a log as its argument."""
        for call in KIND_CALLS:
            yield lambda log, call=call: call(KIND, log)
        yield lambda log: fits(Zone(0), log)
        yield lambda log: offsets_at(KIND, log, None)
        yield lambda log: fitting_with(KIND, log, None, None)

    def test_one_to_twelve_entries(self):
        log = [(count, count) for count in range(13)]
        for call in self.calls():
            for value in [[], (), log, tuple(log), log * 20, None, True, 5, "", "log", {}, {0: 0}, Zone(0), KIND]:
                self.refused(InvalidLog, value, call, value)
        for many in range(1, 13):
            self.assertIs(fits(Zone(0), log[:many]), True)
            self.assertIsNone(shortest_clash(KIND, log[:many]))

    def test_wrong_entries(self):
        items = [None, True, 5, "", "ab", {}, {0: 0, 1: 1}, (), (5,), [5], (5, 5, 5), (5, True), (True, 5), (5, "5"),
                 ("5", 5), (None, 5), [5, None], ((5, 5),), [[5, 5]], Zone(0), KIND]
        for call in self.calls():
            for item in items:
                for log in ([item], [(0, 0), item], ((0, 0), (1, 1), item, (3, 3)), [(0, 0), item, ["later"]]):
                    self.refused(InvalidEntry, item, call, log)

    def test_moments_that_do_not_ascend(self):
        for call in self.calls():
            for moment in (5, 4, -LONG):
                item = (moment, 5)
                for log in ([(5, 5), item], [(0, 0), (5, 5), item, (6, 6)], ((5, 5), item, (5, 5)), [(5, 5), item, ["later"]]):
                    self.refused(InvalidEntry, item, call, log)
            last = ["later"]
            self.refused(InvalidEntry, last, call, [(0, 0), last, (0, 0)])

    def test_wrong_arguments(self):
        wrong = [("kind", NotKind, [*NOT_OBJECTS, Zone(0)]), ("log", InvalidLog, [[], None, "log"])]
        for call in KIND_CALLS:
            self.refused_in_order(call, {"kind": KIND, "log": LOG}, wrong)
        self.refused_in_order(fits, {"zone": Zone(0), "log": LOG}, [("zone", NotZone, [*NOT_OBJECTS, KIND]), wrong[1]])
        wrong.append(("moment", InvalidInteger, NOT_INTEGERS))
        self.refused_in_order(offsets_at, {"kind": KIND, "log": LOG, "moment": 0}, wrong)
        wrong.append(("offset", InvalidInteger, NOT_INTEGERS))
        self.refused_in_order(fitting_with, {"kind": KIND, "log": LOG, "moment": 0, "offset": 60}, wrong)


if __name__ == "__main__":
    unittest.main()
