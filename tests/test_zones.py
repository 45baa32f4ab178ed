"""Zones [3, 4, 21, 22, 23, 24], and what holds for all arguments [6, 7, 8, 9, 10, 11]."""

import copy
import unittest

from everyzone.errors import InvalidChange, InvalidInteger, InvalidPart, InvalidRule, NotZone
from everyzone.words import time_of
from everyzone.zones import Zone, unlike_at
from tests.checking import LONG, Checking, moments_by_hand, offset_by_hand

RULES = ("ahead", "behind", "strict")

NOT_INTEGERS = [
    None, True, False, "", "1", "ahead", (), (1,), [], [1], {}, {1: 1}, [[[[[1]]]]], Zone(0), Zone(1, [(5, 6)]),
    NotZone(1),
]

NOT_PAIRS = [
    None, True, False, 0, 7, "", "ab", "12", (), [], (5000,), [5000], (5000, 60, 1), [5000, 60, 1], {}, {5000: 60},
    {0: 5000, 1: 60}, (None, 60), (5000, None), (True, 60), (5000, True), (False, 60), (5000, False), ("5000", 60),
    (5000, "60"), [5000, [60]], ((5000, 60),), [(5000, 60), (9000, 0)], Zone(0), [[[[[5000, 60]]]]],
]

# First offsets and changes of zones that are small enough to be read minute by minute.
SMALL = [
    (0, []),
    (-7, []),
    (1500, []),
    (60, [(1000, 120)]),
    (0, [(0, 1)]),
    (0, [(0, -1)]),
    (5, [(-3, 725)]),
    (5, [(-3, -715)]),
    (0, [(100, 3), (105, 2)]),
    (0, [(100, -3), (105, -4)]),
    (0, [(100, 1), (103, 0), (106, -1), (109, 0)]),
    (0, [(100, 3), (108, -1), (118, 4), (131, -3)]),
    (-30, [(-200, 30), (-50, -30), (100, 30), (250, -30)]),
    (90, [(0, 810), (1441, 90), (2882, 810)]),
    (-90, [(0, -810), (1441, -90), (2882, -810)]),
    (10, [(10 * number, 10 + number % 2 * 4) for number in range(1, 21)]),
]


def window(first, changes):
    """Readings well around all changes of a zone."""
    moments = [moment for moment, offset in changes] or [0]
    offsets = [first] + [offset for moment, offset in changes]
    return min(moments) + min(offsets) - 30, max(moments) + max(offsets) + 30


def stretches(readings):
    """Ascending readings as tuples of the first one of each stretch and the first one behind it."""
    found = []
    for reading in readings:
        if found and found[-1][1] == reading:
            found[-1] = (found[-1][0], reading + 1)
        else:
            found.append((reading, reading + 1))
    return found


class Making(Checking):
    def test_no_change(self):
        for zone in (Zone(60), Zone(60, ()), Zone(60, []), Zone(offset=60)):
            self.assertEqual((zone.first, zone.changes(), zone.jump_list(), len(zone)), (60, [], [], 0))

    def test_one_and_several_changes(self):
        changes = [(-500, 90), (0, 60), (5000, 61), (90000, -659)]
        for many in range(5):
            zone = Zone(-30, changes[:many])
            self.assertEqual(zone.first, -30)
            self.assertEqual(zone.changes(), changes[:many])
            self.assertEqual(zone.jump_list(), [120, -30, 1, -720][:many])
            self.assertEqual(len(zone), many)

    def test_the_first_offset_is_a_property(self):
        zone = Zone(5)
        with self.assertRaises(AttributeError):
            zone.first = 6
        self.assertEqual(zone.first, 5)

    def test_greatest_and_least_jumps(self):
        for jump in (1, -1, 2, -2, 719, -719, 720, -720):
            self.assertEqual(Zone(17, [(0, 17 + jump)]).jump_list(), [jump])
            self.assertEqual(Zone(17, [(0, 18), (5000, 18 + jump)]).jump_list(), [1, jump])

    def test_jumps_beside_the_bounds(self):
        for jump in (0, 721, -721, 1440, LONG):
            for offset in (0, 17, -800):
                item = (0, offset + jump)
                self.refused(InvalidChange, item, Zone, offset, [item])
                item = (9000, offset + 1 + jump)
                self.refused(InvalidChange, item, Zone, offset, [(0, offset + 1), item])

    def test_distance_of_two_changes(self):
        for one in (1, -1, 30, -60, 720, -720):
            for other in (1, -1, 45, -60, 720, -720):
                for moment in (-5, 0, 100000, LONG):
                    least = moment + abs(one) + abs(other) + 1
                    zone = Zone(3, [(moment, 3 + one), (least, 3 + one + other)])
                    self.assertEqual(zone.jump_list(), [one, other])
                    for beside in (least - 1, least - 2, moment + 1, moment, moment - 1, moment - 9000):
                        item = (beside, 3 + one + other)
                        self.refused(InvalidChange, item, Zone, 3, [(moment, 3 + one), item])

    def test_distance_is_measured_from_the_change_just_before(self):
        changes = [(0, 720), (1441, 0), (2162, 0 - 1), (2165, 0)]
        self.assertEqual(Zone(0, changes[:2]).jump_list(), [720, -720])
        self.refused(InvalidChange, changes[2], Zone, 0, changes)
        changes[2] = (2163, -1)
        self.refused(InvalidChange, changes[3], Zone, 0, changes)
        changes[3] = (2166, 0)
        self.assertEqual(Zone(0, changes).jump_list(), [720, -720, -1, 1])

    def test_integers_of_thirty_digits(self):
        zone = Zone(LONG, [(-LONG, LONG - 1), (LONG, LONG)])
        self.assertEqual((zone.first, zone.changes()), (LONG, [(-LONG, LONG - 1), (LONG, LONG)]))
        self.assertEqual([zone.read(LONG - 1), zone.read(LONG)], [2 * LONG - 2, 2 * LONG])

    def test_twenty_changes(self):
        changes = [(number * 10, number % 2) for number in range(1, 21)]
        zone = Zone(0, changes)
        self.assertEqual((len(zone), zone.changes()), (20, changes))
        self.assertEqual(zone.jump_list(), [1, -1] * 10)

    def test_wrong_first_offset(self):
        for value in NOT_INTEGERS:
            self.refused(InvalidInteger, value, Zone, value)
            self.refused(InvalidInteger, value, Zone, value, [(5, 6)])

    def test_changes_are_a_list(self):
        for value in (None, True, False, 0, 5, "", "ab", {}, {5000: 60}, Zone(0), NotZone(1)):
            self.refused(InvalidPart, value, Zone, 0, value)

    def test_items_are_tuples_of_two_integers(self):
        for item in NOT_PAIRS:
            self.refused(InvalidChange, item, Zone, 0, [item])
            self.refused(InvalidChange, item, Zone, 0, ((4000, 1), item))

    def test_order_of_the_checks(self):
        offset, changes, item = "0", {"a": 1}, [1]
        self.refused(InvalidInteger, offset, Zone, offset, changes)
        self.refused(InvalidInteger, offset, Zone, changes=[item], offset=offset)
        self.refused(InvalidPart, changes, Zone, 0, changes)

    def test_the_first_wrong_item_is_told(self):
        form, still, near = [0, "1"], [5000, 60], [5100, 120]
        self.refused(InvalidChange, still, Zone, 0, [(0, 60), still, form])
        self.refused(InvalidChange, form, Zone, 0, [(0, 60), form, still])
        self.refused(InvalidChange, near, Zone, 0, [(0, 60), (5000, 0), near, still, form])
        one, other = [5000, 0], [5000, 0]
        self.refused(InvalidChange, one, Zone, 0, [one, other])
        self.refused(InvalidChange, other, Zone, 0, [[5000, 1], other, one])

    def test_lists_and_tuples_alike(self):
        told = Zone(0, [(0, 60), (5000, 0)])
        for changes in ([[0, 60], [5000, 0]], ((0, 60), (5000, 0)), ([0, 60], (5000, 0)), [(0, 60), [5000, 0]]):
            zone = Zone(0, changes)
            self.assertEqual(zone, told)
            self.assertEqual(zone.changes(), [(0, 60), (5000, 0)])
            self.assertEqual({type(item) for item in zone.changes()}, {tuple})

    def test_by_name(self):
        self.assertEqual(Zone(changes=[(0, 60)], offset=0), Zone(0, [(0, 60)]))


class Holding(Checking):
    def test_moments_of_changes(self):
        zone = Zone(60, [(-10, 120), (5000, 60)])
        for value in (-10, 5000):
            self.assertIs(value in zone, True)
        for value in (-11, -9, 0, 1, 60, 120, 4999, 5001, LONG):
            self.assertIs(value in zone, False)

    def test_any_other_value(self):
        zone = Zone(0, [(0, 60), (5000, 0)])
        for value in NOT_INTEGERS + [(0, 60), [0, 60], "0", [0], (0,)]:
            self.assertIs(value in zone, False)
            self.assertIs(value in Zone(0), False)

    def test_true_and_false_are_no_moments(self):
        self.assertIs(True in Zone(0, [(1, 60)]), False)
        self.assertIs(False in Zone(0, [(0, 60)]), False)
        self.assertIs(1 in Zone(0, [(1, 60)]), True)
        self.assertIs(0 in Zone(0, [(0, 60)]), True)

    def test_equal_zones(self):
        for first, changes in SMALL:
            self.assertTrue(Zone(first, changes) == Zone(first, tuple(changes)))
            self.assertFalse(Zone(first, changes) != Zone(first, list(changes)))

    def test_unequal_zones(self):
        zones = [Zone(first, changes) for first, changes in SMALL]
        zones += [Zone(0, [(5000, 60)]), Zone(0, [(5001, 60)]), Zone(0, [(5000, 61)]), Zone(1, [(5000, 60)])]
        for index, one in enumerate(zones):
            for number, other in enumerate(zones):
                self.assertEqual(one == other, index == number)
                self.assertEqual(one != other, index != number)

    def test_zones_equal_nothing_else(self):
        zone = Zone(0)
        for value in NOT_INTEGERS[:-4] + [0, [0, []], (0, ()), zone.changes(), NotZone(zone)]:
            self.assertFalse(zone == value)
            self.assertFalse(value == zone)
            self.assertTrue(zone != value)

    def test_what_is_passed_is_copied_and_not_modified(self):
        changes = [[0, 60], [5000, 0]]
        before = copy.deepcopy(changes)
        zone = Zone(0, changes)
        self.assertEqual(changes, before)
        changes[0][1] = 30
        changes.append([9000, 60])
        self.assertEqual(zone.changes(), [(0, 60), (5000, 0)])
        self.assertEqual(zone, Zone(0, before))

    def test_each_call_returns_a_new_list(self):
        zone = Zone(0, [(0, 60), (5000, 0)])
        calls = [zone.changes, zone.jump_list, zone.gaps, zone.folds, lambda: zone.moments_of(-500)]
        for call in calls:
            told = call()
            self.assertIs(type(told), list)
            self.assertIsNot(call(), told)
            kept = list(told)
            told.clear()
            self.assertEqual(call(), kept)
            told.append((1, 2))
            self.assertEqual(call(), kept)
        self.assertEqual(zone, Zone(0, [(0, 60), (5000, 0)]))

    def test_methods_do_not_change_the_zone(self):
        zone = Zone(0, [(0, 60), (5000, 0)])
        for call in (zone.moved, zone.raised, zone.until, zone.since, zone.offset_at, zone.read, zone.moments_of):
            call(3000)
        for rule in RULES:
            zone.place(30, rule)
        unlike_at(zone, Zone(1))
        self.assertEqual((zone.first, zone.changes()), (0, [(0, 60), (5000, 0)]))


class Reading(Checking):
    def test_example_of_the_document(self):
        zone = Zone(60, [(10000, 120), (300000, 60)])
        told = [zone.read(9999), zone.read(10000), zone.moments_of(10060), zone.moments_of(300070), zone.gaps(),
                zone.folds(), zone.jump_list()]
        self.assertEqual(told, [10059, 10120, [], [299950, 300010], [(10060, 10120)], [(300060, 300120)], [60, -60]])

    def test_beside_each_change(self):
        zone = Zone(60, [(-4000, 61), (0, 781), (300000, 61), (400000, 60)])
        told = [(-4001, 60), (-4000, 61), (-3999, 61), (-1, 61), (0, 781), (1, 781), (299999, 781), (300000, 61),
                (300001, 61), (399999, 61), (400000, 60), (400001, 60)]
        for moment, offset in told:
            self.assertEqual(zone.offset_at(moment), offset, moment)
            self.assertEqual(zone.read(moment), moment + offset, moment)

    def test_far_outside(self):
        zone = Zone(60, [(10000, 120), (300000, 30)])
        self.assertEqual([zone.offset_at(-LONG), zone.read(-LONG)], [60, 60 - LONG])
        self.assertEqual([zone.offset_at(LONG), zone.read(LONG)], [30, LONG + 30])
        self.assertEqual(zone.moments_of(-LONG), [-LONG - 60])
        self.assertEqual(zone.moments_of(LONG), [LONG - 30])
        for rule in RULES:
            self.assertEqual([zone.place(-LONG, rule), zone.place(LONG, rule)], [-LONG - 60, LONG - 30])

    def test_no_change(self):
        zone = Zone(-75)
        for moment in (-LONG, -1, 0, 1, 1440, LONG):
            self.assertEqual(zone.offset_at(moment), -75)
            self.assertEqual(zone.read(moment), moment - 75)
            self.assertEqual(zone.moments_of(moment), [moment + 75])
        self.assertEqual([zone.gaps(), zone.folds()], [[], []])

    def test_offsets_minute_by_minute(self):
        for first, changes in SMALL:
            zone = Zone(first, changes)
            for moment in range(*window(first, changes)):
                offset = offset_by_hand(first, changes, moment)
                self.assertEqual(zone.offset_at(moment), offset)
                self.assertEqual(zone.read(moment), moment + offset)

    def test_moments_gaps_and_folds_minute_by_minute(self):
        for first, changes in SMALL:
            zone = Zone(first, changes)
            found = moments_by_hand(first, changes, *window(first, changes))
            for reading, moments in found.items():
                self.assertEqual(zone.moments_of(reading), moments, (first, changes, reading))
            self.assertEqual(zone.gaps(), stretches([at for at, moments in found.items() if len(moments) == 0]))
            self.assertEqual(zone.folds(), stretches([at for at, moments in found.items() if len(moments) == 2]))
            self.assertTrue(all(len(moments) <= 2 for moments in found.values()))

    def test_ends_of_a_gap(self):
        for jump in (1, 2, 60, 720):
            zone = Zone(10, [(500, 10 + jump)])
            self.assertEqual([zone.gaps(), zone.folds()], [[(510, 510 + jump)], []])
            self.assertEqual(zone.moments_of(509), [499])
            self.assertEqual(zone.moments_of(510), [])
            self.assertEqual(zone.moments_of(509 + jump), [])
            self.assertEqual(zone.moments_of(510 + jump), [500])

    def test_ends_of_a_fold(self):
        for jump in (1, 2, 60, 720):
            zone = Zone(10, [(500, 10 - jump)])
            self.assertEqual([zone.gaps(), zone.folds()], [[], [(510 - jump, 510)]])
            self.assertEqual(zone.moments_of(509 - jump), [499 - jump])
            self.assertEqual(zone.moments_of(510 - jump), [500 - jump, 500])
            self.assertEqual(zone.moments_of(509), [499, 499 + jump])
            self.assertEqual(zone.moments_of(510), [500 + jump])

    def test_gaps_and_folds_are_in_the_order_of_the_changes(self):
        zone = Zone(0, [(0, 60), (5000, 90), (10000, 30), (20000, 0), (30000, 720)])
        self.assertEqual(zone.gaps(), [(0, 60), (5060, 5090), (30000, 30720)])
        self.assertEqual(zone.folds(), [(10030, 10090), (20000, 20030)])
        self.assertEqual({type(item) for item in zone.gaps() + zone.folds()}, {tuple})

    def test_wrong_integers(self):
        for zone in (Zone(0), Zone(60, [(10000, 120), (300000, 60)])):
            for value in NOT_INTEGERS:
                for call in (zone.offset_at, zone.read, zone.moments_of):
                    self.refused(InvalidInteger, value, call, value)

    def test_by_name(self):
        zone = Zone(60)
        self.assertEqual(zone.offset_at(moment=1), 60)
        self.assertEqual(zone.read(moment=1), 61)
        self.assertEqual(zone.moments_of(reading=61), [1])


class Placing(Checking):
    def test_example_of_the_document(self):
        zone = Zone(60, [(10000, 120), (300000, 60)])
        told = [zone.place(10100, "ahead"), zone.place(10100, "behind"), zone.place(300070, "ahead"),
                zone.place(300070, "behind"), zone.place(300070, "strict"), zone.place(0, "strict")]
        self.assertEqual(told, [10040, 9980, 299950, 300010, None, -60])

    def test_ends_of_a_gap(self):
        for jump in (1, 2, 60, 720):
            zone = Zone(10, [(500, 10 + jump)])
            for reading in (510, 509 + jump):
                told = [zone.place(reading, rule) for rule in RULES]
                self.assertEqual(told, [reading - 10, reading - 10 - jump, None])
                self.assertEqual(zone.read(told[0]), reading + jump)
                self.assertEqual(zone.read(told[1]), reading - jump)
            for rule in RULES:
                self.assertEqual(zone.place(509, rule), 499)
                self.assertEqual(zone.place(510 + jump, rule), 500)

    def test_ends_of_a_fold(self):
        for jump in (1, 2, 60, 720):
            zone = Zone(10, [(500, 10 - jump)])
            for reading in (510 - jump, 509):
                told = [zone.place(reading, rule) for rule in RULES]
                self.assertEqual(told, [reading - 10, reading - 10 + jump, None])
                self.assertEqual(zone.moments_of(reading), told[:2])
            for rule in RULES:
                self.assertEqual(zone.place(509 - jump, rule), 499 - jump)
                self.assertEqual(zone.place(510, rule), 500 + jump)

    def test_minute_by_minute(self):
        for first, changes in SMALL:
            zone = Zone(first, changes)
            for reading, moments in moments_by_hand(first, changes, *window(first, changes)).items():
                told = [zone.place(reading, rule) for rule in RULES]
                if len(moments) == 1:
                    self.assertEqual(told, moments * 3)
                elif len(moments) == 2:
                    self.assertEqual(told, moments + [None])
                else:
                    self.check_gap(zone, reading, told)

    def check_gap(self, zone, reading, told):
        """A reading in a gap is placed on both sides of the one change there, later by "ahead"."""
        ahead, behind, strict = told
        self.assertIsNone(strict)
        crossed = [moment for moment, offset in zone.changes() if behind < moment <= ahead]
        self.assertEqual(len(crossed), 1)
        jump = zone.jump_list()[zone.changes().index((crossed[0], zone.offset_at(crossed[0])))]
        self.assertEqual(zone.read(ahead) - reading, jump)
        self.assertEqual(reading - zone.read(behind), jump)

    def test_each_change_has_its_own_offsets(self):
        zone = Zone(0, [(0, 60), (5000, 90), (10000, 30), (20000, 0)])
        told = {0: (0, -60), 5060: (5000, 4970), 10030: (9940, 10000), 20000: (19970, 20000)}
        for reading, (ahead, behind) in told.items():
            self.assertEqual([zone.place(reading, rule) for rule in RULES], [ahead, behind, None])

    def test_wrong_rules(self):
        zone = Zone(60, [(10000, 120)])
        for value in NOT_INTEGERS:
            if value != "ahead":
                self.refused(InvalidRule, value, zone.place, 0, value)
        for value in ("Ahead", "ahead ", " behind", "stric", "strictly", "a", "ahead\n", 0, 1, ["ahead"], ("strict",),
                      RULES, {"ahead": 1}):
            self.refused(InvalidRule, value, zone.place, 0, value)
            self.refused(InvalidRule, value, zone.place, 10100, value)

    def test_wrong_readings_first(self):
        zone = Zone(60, [(10000, 120)])
        for value in NOT_INTEGERS:
            for rule in RULES + ("no", None):
                self.refused(InvalidInteger, value, zone.place, value, rule)
                self.refused(InvalidInteger, value, zone.place, rule=rule, reading=value)

    def test_by_name(self):
        self.assertEqual(Zone(60).place(rule="strict", reading=61), 1)


class OtherZones(Checking):
    changes = [(-4000, 120), (0, 60), (90000, 780)]

    def test_moved(self):
        zone = Zone(60, self.changes)
        for minutes in (-LONG, -1, 0, 1, 1440, LONG):
            told = zone.moved(minutes)
            self.assertEqual(told.first, 60)
            self.assertEqual(told.changes(), [(at + minutes, offset) for at, offset in self.changes])
            self.assertEqual(Zone(5).moved(minutes), Zone(5))

    def test_raised(self):
        zone = Zone(60, self.changes)
        for minutes in (-LONG, -1, 0, 1, 1440, LONG):
            told = zone.raised(minutes)
            self.assertEqual(told.first, 60 + minutes)
            self.assertEqual(told.changes(), [(at, offset + minutes) for at, offset in self.changes])
            self.assertEqual(Zone(5).raised(minutes), Zone(5 + minutes))

    def test_until_and_since_at_ahead_and_behind_each_change(self):
        zone = Zone(60, self.changes)
        told = {-LONG: 0, -4001: 0, -4000: 1, -3999: 1, -1: 1, 0: 2, 1: 2, 89999: 2, 90000: 3, 90001: 3, LONG: 3}
        offsets = [60, 120, 60, 780]
        for moment, many in told.items():
            self.assertEqual(zone.until(moment), Zone(60, self.changes[:many]), moment)
            self.assertEqual(zone.since(moment), Zone(offsets[many], self.changes[many:]), moment)

    def test_until_and_since_keep_the_offsets_on_their_side(self):
        for first, changes in SMALL:
            zone = Zone(first, changes)
            for moment in range(-20, 140, 3):
                until, since = zone.until(moment), zone.since(moment)
                for other in (moment - 1000, moment - 1, moment):
                    self.assertEqual(until.offset_at(other), zone.offset_at(other))
                    self.assertEqual(since.offset_at(other), zone.offset_at(moment))
                for other in (moment, moment + 1, moment + 1000):
                    self.assertEqual(until.offset_at(other), zone.offset_at(moment))
                    self.assertEqual(since.offset_at(other), zone.offset_at(other))

    def test_results_are_new_zones(self):
        zone = Zone(60, self.changes)
        for told in (zone.moved(0), zone.raised(0), zone.until(LONG), zone.since(-LONG)):
            self.assertIs(type(told), Zone)
            self.assertEqual(told, zone)
        self.assertEqual(zone.changes(), self.changes)

    def test_wrong_integers(self):
        zone = Zone(60, self.changes)
        for value in NOT_INTEGERS:
            for call in (zone.moved, zone.raised, zone.until, zone.since):
                self.refused(InvalidInteger, value, call, value)

    def test_by_name(self):
        zone = Zone(60, self.changes)
        self.assertEqual(zone.moved(minutes=5), zone.moved(5))
        self.assertEqual(zone.raised(minutes=5), zone.raised(5))
        self.assertEqual(zone.until(moment=5), zone.until(5))
        self.assertEqual(zone.since(moment=5), zone.since(5))

    def test_readings_stay_if_moments_are_moved_and_offsets_lowered(self):
        for first, changes in SMALL:
            zone = Zone(first, changes)
            for minutes in (-1441, -60, 1, 777, 10 ** 20):
                other = zone.moved(minutes).raised(-minutes)
                self.assertEqual([other.gaps(), other.folds()], [zone.gaps(), zone.folds()])
                self.assertEqual(other.jump_list(), zone.jump_list())
                for at in range(-100, 140, 7):
                    self.assertEqual(other.read(at + minutes), zone.read(at))
                    self.assertEqual(other.moments_of(at), [moment + minutes for moment in zone.moments_of(at)])
                    for rule in RULES:
                        placed = zone.place(at, rule)
                        self.assertEqual(other.place(at, rule), None if placed is None else placed + minutes)

    def test_moments_stay_if_offsets_are_raised_by_days(self):
        for first, changes in SMALL:
            zone = Zone(first, changes)
            for days in (-3, 1, 10 ** 20):
                minutes = days * 1440
                other = zone.raised(minutes)
                self.assertEqual(other.gaps(), [(low + minutes, high + minutes) for low, high in zone.gaps()])
                self.assertEqual(other.folds(), [(low + minutes, high + minutes) for low, high in zone.folds()])
                for at in range(-100, 140, 7):
                    self.assertEqual(time_of(other.read(at)), time_of(zone.read(at)))
                    self.assertEqual(other.moments_of(at + minutes), zone.moments_of(at))
                    for rule in RULES:
                        self.assertEqual(other.place(at + minutes, rule), zone.place(at, rule))


class Unlike(Checking):
    def check_unlike(self, one, other):
        """Both orders tell a moment at which the offsets differ."""
        for left, right in ((one, other), (other, one)):
            moment = unlike_at(left, right)
            self.assertIs(type(moment), int)
            self.assertNotEqual(left.offset_at(moment), right.offset_at(moment))
            self.assertEqual(unlike_at(left, right), moment)

    def test_equal_zones(self):
        for first, changes in SMALL:
            zone = Zone(first, changes)
            self.assertIsNone(unlike_at(zone, zone))
            self.assertIsNone(unlike_at(zone, Zone(first, [list(item) for item in changes])))

    def test_first_offsets_differ(self):
        self.check_unlike(Zone(0), Zone(1))
        self.check_unlike(Zone(0, [(0, 60)]), Zone(1, [(0, 60)]))
        self.check_unlike(Zone(60), Zone(0, [(5000, 60)]))
        self.check_unlike(Zone(0, [(0, 60), (5000, 0)]), Zone(1, [(0, 60), (5000, 0)]))
        self.check_unlike(Zone(60, [(-LONG, 61)]), Zone(0, [(-LONG, 61)]))

    def test_one_change_differs(self):
        changes = [(0, 60), (5000, 0), (10000, 60), (15000, 0)]
        zone = Zone(0, changes)
        for index, (moment, offset) in enumerate(changes):
            for other in ((moment + 1, offset), (moment - 1, offset), (moment, offset + 1), (moment, offset - 1)):
                self.check_unlike(zone, Zone(0, changes[:index] + [other] + changes[index + 1:]))

    def test_changes_are_missing(self):
        changes = [(0, 60), (5000, 0), (10000, 60), (15000, 0)]
        zone = Zone(0, changes)
        for many in range(4):
            self.check_unlike(zone, Zone(0, changes[:many]))
            self.check_unlike(zone, zone.since(changes[many][0]))
        self.check_unlike(zone, Zone(0, changes[:1] + changes[3:]))

    def test_all_pairs_of_small_zones(self):
        zones = [Zone(first, changes) for first, changes in SMALL]
        for index, one in enumerate(zones):
            for other in zones[:index]:
                self.check_unlike(one, other)

    def test_wrong_zones(self):
        good = Zone(0, [(0, 60)])
        for value in (None, True, False, 0, "", "zone", [], [good], (0, ()), {}, NotZone(good)):
            other = [value]
            self.refused(NotZone, value, unlike_at, value, good)
            self.refused(NotZone, value, unlike_at, good, value)
            self.refused(NotZone, value, unlike_at, value, other)
            self.refused(NotZone, other, unlike_at, other=value, one=other)

    def test_by_name(self):
        self.assertIsNone(unlike_at(other=Zone(0), one=Zone(0)))


if __name__ == "__main__":
    unittest.main()
