"""Kinds of zones [5, 31, 32, 33], and what holds for all arguments [6, 7, 8, 9, 10]."""

import copy
import itertools
import unittest

from everyzone.errors import Duplicate, InvalidChange, InvalidInteger, InvalidJump, InvalidPart, NotKind, NotZone
from everyzone.kinds import Kind, outside, zone_with
from everyzone.zones import Zone
from tests.checking import LONG, NOT_INTEGERS, OTHERS, Checking

NOT_LISTS = [None, True, False, 0, 60, "", "ab", "60", {}, {60: 60}, Zone(0), Zone(0, [(0, 60)]), Kind([60], 5000)]
NOT_KINDS = ["kind", 0, 60, *OTHERS, [Kind([60], 5000)], (60, 5000, 2), NotKind(Kind([60], 5000))]
NOT_ZONES = [value for value in NOT_KINDS if not isinstance(value, Zone)] + [Kind([60], 5000), [Zone(0)]]


def reasons(kind, zone):
    """All reasons why a zone is not of a kind, found by the words of [5], in the order of [32]."""
    found = []
    changes, before = zone.changes(), zone.first
    if len(changes) > kind.most:
        found.append(("most", len(changes)))
    for index, (moment, offset) in enumerate(changes):
        if offset - before not in kind.jumps:
            found.append(("jump", index))
        before = offset
    for index, (one, other) in enumerate(zip(changes, changes[1:])):
        if other[0] - one[0] < kind.apart:
            found.append(("apart", index + 1))
    return found


class Making(Checking):
    def told(self, kind):
        return kind.jumps, kind.apart, kind.most

    def test_one_to_four_jumps(self):
        jumps = [60, -60, 30, 720]
        for many in range(1, 5):
            kind = Kind(jumps[:many], 5000)
            self.assertEqual(self.told(kind), (tuple(sorted(jumps[:many])), 5000, 2))

    def test_no_jump_and_five(self):
        for jumps in ([], (), [1, 2, 3, 4, 5], (1, 2, 3, 4, 5), [0] * 5, ["a"] * 6, [1] * 300):
            self.refused(InvalidPart, jumps, Kind, jumps, 5000)
            self.refused(InvalidPart, jumps, Kind, jumps, None, None)

    def test_jumps_are_a_list(self):
        for jumps in NOT_LISTS:
            self.refused(InvalidPart, jumps, Kind, jumps, 5000)

    def test_greatest_and_least_jumps(self):
        for jump in (1, -1, 2, -2, 719, -719, 720, -720):
            self.assertEqual(Kind([jump], 5000).jumps, (jump,))
            self.assertEqual(Kind([3, jump], 5000).jumps, tuple(sorted([3, jump])))

    def test_jumps_beside_the_bounds(self):
        for item in (0, 721, -721, 1440, LONG, -LONG):
            for jumps in ([item], [60, item], [item, 60], [60, -60, 30, item]):
                self.refused(InvalidJump, item, Kind, jumps, 5000)

    def test_jumps_that_are_no_integers(self):
        for item in NOT_INTEGERS:
            for jumps in ([item], (item,), [60, item], [60, item, 0, 60]):
                self.refused(InvalidJump, item, Kind, jumps, 5000)

    def test_the_same_jump_twice(self):
        one, other = int("300"), int("300")
        self.assertIsNot(one, other)
        for jumps in ([one, other], [one, 60, other], [60, one, -60, other], (one, other, one, other)):
            self.refused(Duplicate, other, Kind, jumps, 5000)
        self.assertEqual(Kind([300, -300], 5000).jumps, (-300, 300))

    def test_items_are_checked_one_by_one(self):
        wrong, one, other = ["a"], int("300"), int("300")
        self.refused(InvalidJump, wrong, Kind, [wrong, one, other], 5000)
        self.refused(InvalidJump, wrong, Kind, [one, wrong, other], 5000)
        self.refused(Duplicate, other, Kind, [one, other, wrong], 5000)
        self.refused(InvalidJump, True, Kind, [1, True], 5000)
        self.refused(InvalidJump, 0, Kind, [0, 0], 5000)

    def test_the_least_time(self):
        for jumps in ([1], [-1], [60, -60], [30, -60], [60, -30, 45], [-720, 1], [720, 719]):
            twice = 2 * max(abs(jump) for jump in jumps)
            self.assertEqual(Kind(jumps, twice + 1).apart, twice + 1)
            self.assertEqual(Kind(jumps, LONG).apart, LONG)
            for apart in (twice, twice - 1, 0, -twice - 1, -LONG):
                self.refused(InvalidInteger, apart, Kind, jumps, apart)
        for apart in NOT_INTEGERS:
            self.refused(InvalidInteger, apart, Kind, [1], apart)

    def test_the_greatest_number_of_changes(self):
        for most in range(4):
            self.assertEqual(self.told(Kind([60], 5000, most)), ((60,), 5000, most))
        for most in [-1, 4, 5, LONG, -LONG, *NOT_INTEGERS]:
            self.refused(InvalidInteger, most, Kind, [60], 5000, most)

    def test_jumps_in_ascending_order(self):
        for jumps in itertools.permutations([60, -60, 720, -1]):
            self.assertEqual(Kind(jumps, 5000).jumps, (-60, -1, 60, 720))
            self.assertEqual(Kind(list(jumps), 5000), Kind([60, -60, 720, -1], 5000))

    def test_order_of_the_checks(self):
        jumps, item, apart, most = {60: 60}, [60], [5000], [2]
        self.refused(InvalidPart, jumps, Kind, jumps, apart, most)
        self.refused(InvalidJump, item, Kind, [item], apart, most)
        self.refused(InvalidInteger, apart, Kind, [60], apart, most)
        self.refused(InvalidInteger, apart, Kind, most=most, apart=apart, jumps=[60])
        self.refused(InvalidInteger, most, Kind, [60], 121, most)

    def test_by_name(self):
        self.assertEqual(Kind(most=1, apart=5000, jumps=[60]), Kind([60], 5000, 1))
        self.assertEqual(Kind([60], apart=5000), Kind([60], 5000, 2))

    def test_what_is_told_are_properties(self):
        kind = Kind([60], 5000)
        for name in ("jumps", "apart", "most"):
            with self.assertRaises(AttributeError):
                setattr(kind, name, 1)
        self.assertEqual(self.told(kind), ((60,), 5000, 2))

    def test_what_is_passed_is_copied_and_not_modified(self):
        jumps = [60, -60]
        kind = Kind(jumps, 5000)
        self.assertEqual(jumps, [60, -60])
        jumps.append(30)
        self.assertEqual(kind.jumps, (-60, 60))
        self.assertIs(type(kind.jumps), tuple)


class Holding(Checking):
    def test_jumps(self):
        kind = Kind([60, -60, 1], 5000)
        for value in (60, -60, 1):
            self.assertIs(value in kind, True)
        for value in (0, 59, 61, -59, -61, -1, 2, 5000, LONG):
            self.assertIs(value in kind, False)

    def test_any_other_value(self):
        for kind in (Kind([60], 5000), Kind([1, -1], 5000)):
            for value in [*NOT_INTEGERS, (60,), [60], {60: 60}, kind]:
                self.assertIs(value in kind, False)

    def test_equal_kinds(self):
        kind = Kind([60, -60, 30], 5000)
        for other in (kind, Kind([30, 60, -60], 5000), Kind((-60, 30, 60), 5000, 2)):
            self.assertTrue(kind == other)
            self.assertFalse(kind != other)

    def test_kinds_with_one_thing_otherwise(self):
        kinds = [Kind([60, -60], 5000), Kind([60, -61], 5000), Kind([60], 5000), Kind([60, -60, 1], 5000),
                 Kind([60, -60], 5001), Kind([60, -60], 5000, 1), Kind([60, -60], 5000, 3), Kind([60, -60], 5000, 0)]
        for index, one in enumerate(kinds):
            for number, other in enumerate(kinds):
                self.assertEqual(one == other, index == number)
                self.assertEqual(one != other, index != number)

    def test_kinds_equal_nothing_else(self):
        kind = Kind([60], 5000)
        for value in ["", 60, *OTHERS, (60,), ((60,), 5000, 2), [[60], 5000, 2], NotKind(kind)]:
            self.assertFalse(kind == value)
            self.assertFalse(value == kind)
            self.assertTrue(kind != value)


class Having(Checking):
    def check(self, kind, zone, told):
        """What has and why_not tell of a zone."""
        self.assertEqual(kind.why_not(zone), told)
        self.assertIs(kind.has(zone), told is None)
        if told is not None:
            self.assertIs(type(kind.why_not(zone)), tuple)

    def test_example_of_the_document(self):
        kind = Kind([60, -60], 5000)
        told = [kind.has(Zone(0, [(10, 60), (5010, 0)])), kind.why_not(Zone(0, [(10, 60), (5009, 0)])),
                kind.why_not(Zone(0, [(10, 30)])), 60 in kind]
        self.assertEqual(told, [True, ("apart", 1), ("jump", 0), True])

    def test_no_change(self):
        for most in range(4):
            for first in (0, 60, -LONG, LONG):
                self.check(Kind([60], 5000, most), Zone(first), None)

    def test_too_many_changes(self):
        changes = [(9000 * number, 60 * (number + 1)) for number in range(20)]
        for most in range(4):
            for many in range(21):
                told = None if many <= most else ("most", many)
                self.check(Kind([60], 5000, most), Zone(0, changes[:many]), told)

    def test_jumps(self):
        kind = Kind([60, -30], 5000, 3)
        self.check(kind, Zone(7, [(0, 67), (5000, 37), (10000, 97)]), None)
        self.check(kind, Zone(7, [(0, 6), (5000, 66), (10000, 36)]), ("jump", 0))
        self.check(kind, Zone(7, [(0, 67), (5000, 7), (10000, 67)]), ("jump", 1))
        self.check(kind, Zone(7, [(0, 67), (5000, 37), (10000, 67)]), ("jump", 2))
        self.check(kind, Zone(7, [(0, 67), (5000, 36), (10000, 35)]), ("jump", 1))

    def test_the_least_time_and_one_minute_less(self):
        kind = Kind([60, -60], 5000, 3)
        for moment in (-LONG, -5000, 0, 1, LONG):
            for apart, told in ((4999, ("apart", 1)), (5000, None), (5001, None)):
                self.check(kind, Zone(0, [(moment, 60), (moment + apart, 0)]), told)
            for apart, told in ((4999, ("apart", 2)), (5000, None), (5001, None)):
                self.check(kind, Zone(0, [(moment, 60), (moment + 5000, 0), (moment + 5000 + apart, 60)]), told)
        self.check(kind, Zone(0, [(0, 60), (4999, 0), (9998, 60)]), ("apart", 1))
        self.check(kind, Zone(0, [(0, 60), (4999, 0), (9999, 60)]), ("apart", 1))

    def test_several_reasons_in_their_order(self):
        kind = Kind([60, -60], 5000, 2)
        self.check(kind, Zone(0, [(0, 30), (3000, 90), (6000, 30)]), ("most", 3))
        self.check(kind, Zone(0, [(0, 60), (3000, 90)]), ("jump", 1))
        self.check(kind, Zone(0, [(0, 60), (3000, 0), (99000, 60)]), ("most", 3))
        self.check(kind, Zone(0, [(0, 60), (9000, 0), (99000, 30)]), ("most", 3))
        self.check(Kind([60, -60], 5000, 3), Zone(0, [(0, 60), (3000, 0), (99000, 30)]), ("jump", 2))

    def test_many_zones_by_the_words_of_the_document(self):
        zones = [Zone(7, [])]
        for many in range(1, 4):
            for jumps in itertools.product([60, -60, 30], repeat=many):
                for spans in itertools.product([200, 4999, 5000], repeat=many - 1):
                    moments = [sum(spans[:index]) for index in range(many)]
                    zones.append(zone_with(7, list(zip(moments, jumps))))
        kinds = [Kind(jumps, apart, most) for jumps in ([60], [60, -60], [30, -60, 60]) for apart in (200, 5000)
                 for most in range(4)]
        for kind in kinds:
            for zone in zones:
                self.check(kind, zone, (reasons(kind, zone) + [None])[0])

    def test_wrong_zones(self):
        kind = Kind([60], 5000)
        for value in NOT_ZONES:
            self.refused(NotZone, value, kind.has, value)
            self.refused(NotZone, value, kind.why_not, value)

    def test_by_name(self):
        self.assertIs(Kind([60], 5000).has(zone=Zone(0)), True)
        self.assertIsNone(Kind([60], 5000).why_not(zone=Zone(0)))


class ZoneWith(Checking):
    def test_example_of_the_document(self):
        self.assertEqual(zone_with(60, [(10000, 60)]), Zone(60, [(10000, 120)]))

    def test_jumps_become_offsets(self):
        steps = [(-500, 120), (0, -30), (5000, 1), (90000, -720)]
        changes = [(-500, 90), (0, 60), (5000, 61), (90000, -659)]
        for many in range(5):
            zone = zone_with(-30, steps[:many])
            self.assertIs(type(zone), Zone)
            self.assertEqual((zone.first, zone.changes()), (-30, changes[:many]))
            self.assertEqual(zone.jump_list(), [jump for moment, jump in steps[:many]])

    def test_long_integers_and_many_changes(self):
        self.assertEqual(zone_with(LONG, [(-LONG, -1), (LONG, 1)]), Zone(LONG, [(-LONG, LONG - 1), (LONG, LONG)]))
        steps = [(number * 10, (-1) ** number) for number in range(20)]
        self.assertEqual(zone_with(5, steps).changes(), [(number * 10, 6 - number % 2) for number in range(20)])

    def test_wrong_first_offset(self):
        for value in NOT_INTEGERS:
            self.refused(InvalidInteger, value, zone_with, value, [(0, 60)])
            self.refused(InvalidInteger, value, zone_with, value, None)

    def test_steps_are_a_list(self):
        for value in NOT_LISTS:
            self.refused(InvalidPart, value, zone_with, 0, value)

    def test_items_are_tuples_of_two_integers(self):
        wrong = [5000, "", "ab", *OTHERS, (5000,), (5000, 60, 1), {5000: 60, 1: 2}, (None, 60), (5000, None),
                 (True, 60), (5000, True), (False, 60), (5000, False), ("5000", 60), (5000, "60"), ((5000, 60),)]
        for item in wrong:
            self.refused(InvalidChange, item, zone_with, 0, [item])
            self.refused(InvalidChange, item, zone_with, 0, ((4000, 1), item))

    def test_jumps_beside_the_bounds(self):
        for offset in (0, 17, -800):
            for jump in (1, -1, 720, -720):
                self.assertEqual(zone_with(offset, [(5, jump)]).jump_list(), [jump])
            for jump in (0, 721, -721, LONG):
                item = (9000, jump)
                self.refused(InvalidChange, item, zone_with, offset, [item])
                self.refused(InvalidChange, item, zone_with, offset, [(0, 1), item])

    def test_distance_of_two_changes(self):
        for one, other in itertools.product((1, -1, 60, -720), (1, -1, -45, 720)):
            for moment in (-5, 0, LONG):
                least = moment + abs(one) + abs(other) + 1
                self.assertEqual(zone_with(3, [(moment, one), (least, other)]).jump_list(), [one, other])
                for beside in (least - 1, moment + 1, moment, moment - 1, moment - 9000):
                    item = (beside, other)
                    self.refused(InvalidChange, item, zone_with, 3, [(moment, one), item])

    def test_distance_is_measured_from_the_change_just_before(self):
        steps = [(0, 720), (1441, -720), (2163, -1), (2165, 1)]
        self.refused(InvalidChange, steps[3], zone_with, 0, steps)
        steps[3] = (2166, 1)
        self.assertEqual(zone_with(0, steps).jump_list(), [720, -720, -1, 1])

    def test_the_first_wrong_item_is_told(self):
        form, still, near = [0, "1"], [5000, 0], [5100, 60]
        self.refused(InvalidChange, still, zone_with, 0, [(0, 60), still, form])
        self.refused(InvalidChange, form, zone_with, 0, [(0, 60), form, still])
        self.refused(InvalidChange, near, zone_with, 0, [(0, 60), (5000, -60), near, still, form])

    def test_order_of_the_checks(self):
        offset, steps = "0", {"a": 1}
        self.refused(InvalidInteger, offset, zone_with, steps=steps, offset=offset)
        self.refused(InvalidPart, steps, zone_with, 0, steps)

    def test_lists_and_tuples_alike(self):
        told = zone_with(0, [(0, 60), (5000, -60)])
        for steps in ([[0, 60], [5000, -60]], ((0, 60), (5000, -60)), ([0, 60], (5000, -60))):
            before = copy.deepcopy(steps)
            self.assertEqual(zone_with(0, steps), told)
            self.assertEqual(steps, before)

    def test_by_name(self):
        self.assertEqual(zone_with(steps=[(0, 60)], offset=1), Zone(1, [(0, 61)]))


class Outside(Checking):
    def check(self, one, other, inside):
        """Each zone of the one kind is of the other, or the zone that is told is of the one kind alone."""
        zone = outside(one, other)
        if inside:
            self.assertIsNone(zone)
            return
        self.assertIs(type(zone), Zone)
        self.assertIsNone(one.why_not(zone))
        self.assertIsNotNone(other.why_not(zone))
        self.assertEqual(outside(Kind(list(one.jumps), one.apart, one.most), other), zone)

    def test_example_of_the_document(self):
        self.assertIsNone(outside(Kind([60], 5000, 1), Kind([30, 60], 9000)))
        self.assertIsNotNone(outside(Kind([60, -60], 5000), Kind([60, -60], 4000, 1)))

    def test_equal_kinds(self):
        for most in range(4):
            self.check(Kind([60, -60], 5000, most), Kind([-60, 60], 5000, most), True)

    def test_jumps(self):
        sets = [[60], [-60], [30], [60, -60], [60, 30], [60, -60, 30], [1, 2, 3, 60], [720, -720]]
        for one, other in itertools.product(sets, sets):
            for most in range(4):
                inside = most == 0 or all(jump in other for jump in one)
                self.check(Kind(one, 5000, most), Kind(other, 5000, most), inside)

    def test_the_least_time_by_one_minute(self):
        for most in range(4):
            for jumps in ([60], [60, -60], [-720, 5]):
                one, other = Kind(jumps, 5000, most), Kind(jumps, 5001, most)
                self.check(one, other, most < 2)
                self.check(other, one, True)
        self.check(Kind([720], 1441), Kind([720], 1442), False)
        self.check(Kind([1], 3), Kind([1, 720], 1441), False)

    def test_the_number_of_changes(self):
        for one, other in itertools.product(range(4), range(4)):
            self.check(Kind([60, -60], 5000, one), Kind([60, -60], 5000, other), one <= other)
            self.check(Kind([60, -60], 5000, one), Kind([60, -60], 4000, other), one <= other)
            self.check(Kind([60, -60], 5000, one), Kind([60, -60], 9000, other), one <= other and one < 2)

    def test_all_pairs(self):
        kinds = [Kind(jumps, apart, most) for jumps in ([60], [-60], [60, -60], [60, -60, 30])
                 for apart in (121, 122, 5000) for most in range(4)]
        for one, other in itertools.product(kinds, kinds):
            jumps = all(jump in other.jumps for jump in one.jumps)
            inside = one.most == 0 or one.most <= other.most and jumps and (one.most == 1 or one.apart >= other.apart)
            self.check(one, other, inside)

    def test_wrong_kinds(self):
        good = Kind([60], 5000)
        for value in NOT_KINDS:
            other = [value]
            self.refused(NotKind, value, outside, value, good)
            self.refused(NotKind, value, outside, good, value)
            self.refused(NotKind, value, outside, value, other)
            self.refused(NotKind, other, outside, other=value, one=other)

    def test_by_name(self):
        self.assertIsNotNone(outside(other=Kind([60], 5000, 1), one=Kind([60], 5000, 2)))
        self.assertIsNone(outside(other=Kind([60], 5000, 2), one=Kind([60], 5000, 1)))


if __name__ == "__main__":
    unittest.main()
