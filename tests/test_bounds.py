"""Bounds on the differences of integers [61, 62, 63], and what holds for all arguments [6, 7, 8, 9, 10]."""

import copy
import itertools
import random
import unittest

from everyzone.bounds import holds, settle, shows_ring, tightest
from everyzone.errors import InvalidBound, InvalidName, InvalidPart, InvalidValues, NotPossible
from everyzone.zones import Zone
from tests.checking import LONG, OTHERS, Checking

NOT_LISTS = [None, True, False, 0, "", "abc", {}, {"a": 1}, {("a", "b", 1): 1}, Zone(0)]
NOT_BOUNDS = [
    "", "abc", "ab1", 0, *OTHERS, ("a", "b"), ["a", "b"], ("a", "b", 1, 1), ("a", "b", 1, None), (1, "b", 1), ("a", 1, 1),
    ("a", "b", None), ("a", "b", "1"), ("a", "b", True), ("a", "b", False), ("a", "b", (1,)), ("", "b", 1), ("a", "", 1),
    ("A", "b", 1), ("a", "B", 1), ("1a", "b", 1), ("a", "b c", 1), ("abcdefghi", "b", 1), ("a", "abcdefghi", 1),
    (["a"], "b", 1), ("a", ["b"], 1), (None, "b", 1), ("a", None, 1), (("a", "b"), 1), {"a": 1, "b": 2, "c": 3},
    [("a", "b", 1)], ("a", 1, "b"), (True, "b", 1),
]
NOT_NAMES = ["", "A", "1", "1a", "a b", "abcdefghi", "a_", "a\n", 0, 1, *OTHERS, ["a"], ("a",), {"a": 1}]


def reachable(bounds, many):
    """The least sums along chains of bounds from name to name, with up to so many bounds."""
    names = sorted({name for bound in bounds for name in bound[:2]})
    least = {(name, name): 0 for name in names}
    for turn in range(many):
        for x, y, n in bounds:
            for name in names:
                if (y, name) in least:
                    least[x, name] = min(least.get((x, name), n + least[y, name]), n + least[y, name])
    return least


def some_bounds(seed, names, many, low, high):
    """Bounds that are always the same ones for the same arguments."""
    source = random.Random(seed)
    return [(source.choice(names), source.choice(names), source.randint(low, high)) for turn in range(many)]


SAMPLES = [some_bounds(seed, names, many, low, high) for seed in range(12) for names in ("ab", "abc", "abcdef")
           for many in (1, 2, 5, 9) for low, high in ((-2, 9), (-3, 3), (0, 5), (-9, 40))]


class Settling(Checking):
    def check(self, bounds):
        """What settle tells is right; True if all bounds can hold."""
        before = copy.deepcopy(bounds)
        told = settle(bounds)
        self.assertEqual(bounds, before)
        self.assertEqual(settle([list(item) for item in bounds]), told)
        self.assertIs(type(told), tuple)
        word, found = told
        if word == "values":
            self.assertIs(type(found), dict)
            self.assertEqual(sorted(found), sorted({name for x, y, n in bounds for name in (x, y)}))
            self.assertEqual({type(number) for number in found.values()} - {int}, set())
            self.assertIs(holds(bounds, found), True)
            self.assertTrue(all(found[x] - found[y] <= n for x, y, n in bounds))
            return True
        self.assertEqual(word, "ring")
        self.assertIs(type(found), list)
        self.assertIs(shows_ring(bounds, found), True)
        self.assertTrue(found and all(type(index) is int and 0 <= index < len(bounds) for index in found))
        ring = [bounds[index] for index in found]
        self.assertTrue(all(one[1] == other[0] for one, other in zip(ring, ring[1:] + ring[:1])))
        self.assertLess(sum(n for x, y, n in ring), 0)
        return False

    def test_no_bounds(self):
        self.assertEqual(settle([]), ("values", {}))
        self.assertEqual(settle(()), ("values", {}))

    def test_one_bound(self):
        for n in (-LONG * 10 ** 9, -5, -1, 0, 1, 5, LONG * 10 ** 9):
            self.assertTrue(self.check([("a", "b", n)]))
            self.assertEqual(self.check([("a", "a", n)]), n >= 0)

    def test_twice_the_same_name(self):
        self.assertTrue(self.check([("a", "b", -5), ("b", "b", 0), ("a", "a", 0)]))
        self.assertFalse(self.check([("a", "b", -5), ("b", "b", -1), ("a", "a", 0)]))
        self.assertEqual(settle([("a", "b", -5), ("c", "c", -1), ("a", "a", 0)]), ("ring", [1]))
        self.assertEqual(settle([("a", "a", 0)])[0], "values")
        self.assertEqual(settle([("a", "a", -1)]), ("ring", [0]))

    def test_the_same_bound_twice(self):
        self.assertTrue(self.check([("a", "b", -5), ("a", "b", -5), ("b", "a", 5), ("b", "a", 5)]))
        self.assertFalse(self.check([("a", "b", -5), ("a", "b", -5), ("b", "a", 4), ("b", "a", 4)]))
        self.assertTrue(self.check([("a", "b", -5)] * 300))

    def test_rings_of_several_bounds(self):
        for many in range(1, 40):
            names = [f"x{number}" for number in range(many)]
            ring = [(one, other, 3) for one, other in zip(names, names[1:] + names[:1])]
            for place in (0, many // 2, many - 1):
                bounds = list(ring)
                bounds[place] = bounds[place][:2] + (3 - 3 * many,)
                self.assertTrue(self.check(bounds))
                self.assertTrue(self.check(bounds[::-1]))
                bounds[place] = bounds[place][:2] + (2 - 3 * many,)
                self.assertFalse(self.check(bounds))
                self.assertFalse(self.check(bounds[::-1]))
                self.assertEqual(sorted(settle(bounds)[1]), list(range(many)))

    def test_rings_beside_bounds_that_can_hold(self):
        chain = [(f"c{number}", f"c{number + 1}", -number) for number in range(30)]
        ring = [("a", "b", 4), ("b", "d", -9), ("d", "a", 4)]
        for bounds in (chain + ring, ring + chain, chain[::-1] + ring, chain + [("a", "c0", -1), ("c0", "a", 2)] + ring,
                       chain + [("c0", "a", -1)] + ring, chain + [("a", "c30", -1)] + ring):
            self.assertFalse(self.check(bounds))
            self.assertTrue(self.check([item for item in bounds if item != ring[2]]))

    def test_integers_of_any_size(self):
        for size in (LONG, LONG + 1, 10 ** 45, 10 ** 300):
            bounds = [("a", "b", -size), ("b", "c", -size), ("c", "a", 2 * size)]
            self.assertTrue(self.check(bounds))
            self.assertTrue(self.check(bounds[::-1]))
            self.assertFalse(self.check(bounds[:2] + [("c", "a", 2 * size - 1)]))
            self.assertFalse(self.check([("c", "a", 2 * size - 1)] + bounds[:2]))

    def test_names(self):
        self.assertTrue(self.check([("start", "midnight", 1439), ("midnight", "start", 0), ("next1", "start", 5)]))
        self.assertTrue(self.check([("a", "abcdefgh", 1), ("z9", "a", -1)]))

    def test_all_small_lists(self):
        kinds = [(x, y, n) for x in "abc" for y in "abc" for n in (-1, 0, 1)]
        seen = {True: 0, False: 0}
        for many in range(4):
            for bounds in itertools.combinations_with_replacement(kinds, many):
                least = reachable(bounds, 3)
                can = all(least[name, name] >= 0 for name, other in least if name == other)
                self.assertIs(self.check(list(bounds)), can)
                seen[can] += 1
        self.assertTrue(seen[True] > 500 and seen[False] > 500)

    def test_samples(self):
        seen = {True: 0, False: 0}
        for bounds in SAMPLES:
            least = reachable(bounds, 6)
            can = all(least[name, name] >= 0 for name, other in least if name == other)
            self.assertIs(self.check(bounds), can)
            seen[can] += 1
        self.assertTrue(seen[True] > 100 and seen[False] > 100)

    def test_many_bounds(self):
        chain = [(f"x{number}", f"x{number + 1}", -1) for number in range(299)]
        for bounds in (chain, chain[::-1]):
            self.assertTrue(self.check([*bounds, ("x299", "x0", 299)]))
            self.assertFalse(self.check([*bounds, ("x299", "x0", 298)]))
            self.assertFalse(self.check([("x299", "x0", 298), *bounds]))

    def test_lists_and_tuples_alike(self):
        for bounds in ([("a", "b", -5), ("b", "c", 3)], [("a", "b", -5), ("b", "a", 3)]):
            for other in (tuple(bounds), [list(item) for item in bounds], (list(bounds[0]), bounds[1])):
                self.assertEqual(settle(other), settle(bounds))

    def test_new_dicts_and_lists(self):
        for bounds in ([("a", "b", -5)], [("a", "a", -5)], []):
            self.returns_new_lists(lambda: settle(bounds))

    def test_by_name(self):
        self.assertEqual(settle(bounds=[("a", "a", -1)]), ("ring", [0]))


class Refusals(Checking):
    def calls(self):
        """Each function as one that takes bounds only; its other arguments are wrong as well, where they can be."""
        return [settle, lambda bounds: holds(bounds, None), lambda bounds: holds(bounds=bounds, values={}),
                lambda bounds: shows_ring(bounds, [0]), lambda bounds: shows_ring(bounds, None),
                lambda bounds: tightest(bounds, "a", "b"), lambda bounds: tightest(bounds, None, None)]

    def test_bounds_are_a_list(self):
        for value in NOT_LISTS:
            for call in self.calls():
                self.refused(InvalidPart, value, call, value)

    def test_items_are_bounds(self):
        for item in NOT_BOUNDS:
            for call in self.calls():
                self.refused(InvalidBound, item, call, [item])
                self.refused(InvalidBound, item, call, (("a", "a", -1), item))

    def test_the_first_wrong_item_is_told(self):
        one, other = ["a", "b"], ["a", "b"]
        for call in self.calls():
            self.refused(InvalidBound, one, call, [("a", "b", 1), one, other])
            self.refused(InvalidBound, other, call, [("a", "b", 1), other, one])


class Holding(Checking):
    def test_each_bound(self):
        for n in (-LONG, -5, 0, 5, LONG):
            for base in (0, -7, 10 ** 40):
                for beside, told in ((-1, True), (0, True), (1, False)):
                    named = {"a": base + n + beside, "b": base}
                    self.assertIs(holds([("a", "b", n)], named), told)
                    self.assertIs(holds([("c", "c", 0), ("a", "b", n)], {**named, "c": 5}), told)

    def test_all_bounds_have_to_hold(self):
        bounds = [("a", "b", -5), ("b", "c", 3), ("c", "a", 2)]
        self.assertIs(holds(bounds, {"a": 0, "b": 5, "c": 2}), True)
        for other in ({"a": 1, "b": 5, "c": 2}, {"a": 0, "b": 6, "c": 2}, {"a": 0, "b": 6, "c": 3}):
            self.assertIs(holds(bounds, other), False)

    def test_twice_the_same_name(self):
        for n, told in ((-1, False), (0, True), (1, True)):
            self.assertIs(holds([("a", "a", n)], {"a": 77}), told)

    def test_no_bounds(self):
        for told in ({}, {"a": 1}, {1: None}):
            self.assertIs(holds([], told), True)

    def test_names_that_do_not_occur(self):
        for more in ({"c": 5}, {"c": None, "": "x"}, {5: [1], "B": True}, {"A": "no integer"}):
            self.assertIs(holds([("a", "b", 1)], {"a": 1, "b": 0, **more}), True)
            self.assertIs(holds([("a", "b", 1)], {**more, "b": 0, "a": 2}), False)

    def test_a_name_is_missing(self):
        bounds = [("a", "b", 1), ("c", "a", 1)]
        for named in ({}, {"a": 1}, {"a": 1, "b": 1}, {"b": 1, "c": 1}, {"a": 1, "c": 1}, {"a": 1, "b": 1, "d": 1}):
            self.refused(InvalidValues, named, holds, bounds, named)
        self.refused(InvalidValues, (named := {"a": 5}), holds, [("a", "b", 1), ("a", "a", -1)], named)

    def test_values_that_are_no_integers(self):
        for value in ["", "1", *OTHERS]:
            for name in "abc":
                named = {"a": 1, "b": 1, "c": 1, name: value}
                self.refused(InvalidValues, named, holds, [("a", "b", -9), ("c", "c", 1)], named)

    def test_values_that_are_no_dict(self):
        for value in ["", "ab", 0, *OTHERS, [("a", 1)], (("a", 1),), Zone(0)]:
            if not isinstance(value, dict):
                self.refused(InvalidValues, value, holds, [], value)
                self.refused(InvalidValues, value, holds, [("a", "b", 1)], value)

    def test_arguments_stay(self):
        bounds, named = [["a", "b", 1]], {"b": 1, "c": [1], "a": 1}
        self.assertIs(holds(bounds, named), True)
        self.assertEqual((bounds, named), ([["a", "b", 1]], {"b": 1, "c": [1], "a": 1}))
        self.assertIs(holds(values={"a": 1, "b": 1}, bounds=(("a", "b", 1),)), True)


class Rings(Checking):
    bounds = [("a", "b", -5), ("b", "c", 3), ("c", "a", 1), ("a", "a", -1), ("b", "b", 0), ("a", "b", 9), ("b", "a", -4)]

    def shows(self, told, ring):
        self.assertIs(shows_ring(self.bounds, ring), told, ring)

    def test_one_index(self):
        for index, told in enumerate((False, False, False, True, False, False, False)):
            self.shows(told, [index])

    def test_several_indices(self):
        for ring in ([0, 1, 2], [1, 2, 0], [2, 0, 1]):
            self.shows(True, ring)
        for ring in ([0, 2, 1], [2, 1, 0], [0, 1], [1, 2], [2, 0], [0, 0], [1, 0, 2]):
            self.shows(False, ring)
        self.shows(True, [0, 6])
        self.shows(True, [6, 0])

    def test_the_sum_is_below_zero(self):
        self.shows(False, [5, 6])
        self.shows(False, [4])
        self.shows(False, [5, 1, 2])
        for n, told in ((-2, True), (-1, True), (0, False), (1, False), (-LONG ** 3, True), (LONG ** 3, False)):
            self.assertIs(shows_ring([("a", "b", 7), ("b", "a", n - 7)], [0, 1]), told)
            self.assertIs(shows_ring([("a", "a", n)], [0]), told)

    def test_an_index_twice(self):
        self.shows(True, [3, 3])
        self.shows(True, [0, 1, 2, 0, 1, 2])
        self.shows(True, [0, 4, 4, 1, 2])
        self.shows(False, [4, 4])
        self.shows(False, [5, 6, 5, 6])
        self.shows(True, [5, 6, 0, 6])
        self.shows(False, [0, 0, 6])

    def test_names_of_the_last_and_the_first_one(self):
        bounds = [("a", "b", -1), ("b", "c", -1), ("c", "b", -1)]
        for ring, told in (([1, 2], True), ([2, 1], True), ([0, 1, 2], False), ([0, 1], False), ([1], False),
                           ([1, 2, 1], False), ([2, 1, 0], False)):
            self.assertIs(shows_ring(bounds, ring), told)

    def test_indices_that_there_are_not(self):
        for index in (7, 8, -1, -4, -7, LONG, -LONG):
            for ring in ([index], [3, index], [index, 3], [0, 1, 2, index]):
                self.shows(False, ring)
        self.assertIs(shows_ring([("a", "a", -1)], [-1]), False)
        self.assertIs(shows_ring([], [0]), False)

    def test_no_integers(self):
        for bounds in ([("a", "a", -1)] * 2, self.bounds):
            for index in ["", "0", *OTHERS]:
                for ring in ([index], [index, index]):
                    self.assertIs(shows_ring(bounds, ring), False)
        self.assertIs(shows_ring([("a", "a", 1), ("a", "a", -1)], [1]), True)
        self.assertIs(shows_ring([("a", "a", 1), ("a", "a", -1)], [True]), False)
        self.assertIs(shows_ring([("a", "a", -1)], [False]), False)

    def test_only_a_list_is_a_ring(self):
        for ring in ((3,), (0, 1, 2), (), {3: 3}, {0: 0, 1: 1, 2: 2}, "3", 3, [(3,)], [[3]], *OTHERS):
            self.shows(False, ring)
        self.shows(False, [])
        self.assertIs(shows_ring([], []), False)
        self.assertIs(shows_ring(tuple(list(item) for item in self.bounds), [0, 1, 2]), True)

    def test_arguments_stay(self):
        ring = [1, 2, 0]
        self.assertIs(shows_ring(ring=ring, bounds=self.bounds), True)
        self.assertEqual((ring, self.bounds[0]), ([1, 2, 0], ("a", "b", -5)))


class Tightest(Checking):
    def test_example_of_the_document(self):
        bounds = [("a", "b", -5), ("b", "c", 3)]
        told = [tightest(bounds, "a", "c"), tightest(bounds, "c", "a"), settle(bounds)[0],
                shows_ring([*bounds, ("c", "a", 1)], [1, 2, 0])]
        self.assertEqual(told, [-2, None, "values", True])

    def test_equal_names(self):
        for bounds in ([], [("a", "b", -5), ("b", "a", 7)], [("a", "a", 9)], [("a", "a", 0), ("b", "c", -1)]):
            for name in ("a", "b", "zz", "abcdefgh"):
                self.assertEqual(tightest(bounds, name, name), 0)

    def test_names_that_do_not_occur(self):
        for bounds in ([], [("a", "b", -5), ("b", "a", 7)]):
            for x, y in (("a", "c"), ("c", "a"), ("c", "d"), ("b", "c"), ("c", "b")):
                self.assertIsNone(tightest(bounds, x, y))

    def test_along_several_bounds(self):
        bounds = [("a", "b", -5), ("b", "c", 3), ("c", "d", -1), ("a", "d", 0), ("d", "e", 10), ("a", "e", 8), ("e", "e", 3)]
        told = {"ab": -5, "ac": -2, "ad": -3, "ae": 7, "bc": 3, "bd": 2, "be": 12, "cd": -1, "ce": 9, "de": 10}
        for x, y in itertools.product("abcde", "abcde"):
            expected = 0 if x == y else told.get(x + y)
            for order in (bounds, bounds[::-1], bounds[3:] + bounds[:3]):
                self.assertEqual(tightest(order, x, y), expected)

    def test_the_least_of_several_bounds(self):
        self.assertEqual(tightest([("a", "b", 9), ("a", "b", 4), ("a", "b", 7)], "a", "b"), 4)
        self.assertEqual(tightest([("a", "b", 4), ("a", "b", 4)], "a", "b"), 4)
        self.assertEqual(tightest([("a", "b", 4), ("a", "c", 1), ("c", "b", 3)], "a", "b"), 4)
        self.assertEqual(tightest([("a", "b", 4), ("a", "c", 1), ("c", "b", 2)], "a", "b"), 3)

    def test_integers_of_any_size(self):
        for size in (LONG, 10 ** 45, 10 ** 300):
            self.assertEqual(tightest([("a", "b", size), ("b", "c", size)], "a", "c"), 2 * size)
            self.assertEqual(tightest([("a", "b", -size), ("b", "c", -size)], "a", "c"), -2 * size)

    def test_held_against_settle(self):
        told = {True: 0, False: 0}
        for bounds in SAMPLES:
            if settle(bounds)[0] == "values":
                for x, y in itertools.product("abcg", "abcg"):
                    n = tightest(bounds, x, y)
                    told[n is None] += 1
                    if n is None:
                        self.assertEqual(settle([*bounds, (y, x, -10 ** 9)])[0], "values")
                    else:
                        self.assertEqual(settle([*bounds, (y, x, -n - 1)])[0], "ring")
                        self.assertEqual(settle([*bounds, (y, x, -n)])[0], "values")
        self.assertTrue(told[True] > 100 and told[False] > 100)

    def test_not_possible(self):
        told = 0
        for bounds in [[("a", "a", -1)], [("a", "b", 4), ("b", "a", -5)], *SAMPLES]:
            if settle(bounds)[0] == "ring":
                told += 1
                for x, y in (("a", "b"), ("a", "a"), ("c", "d"), ("q", "q"), ("q", "r")):
                    with self.assertRaises(NotPossible) as caught:
                        tightest(bounds, x, y)
                    self.assertIs(type(caught.exception), NotPossible)
                    self.assertIs(shows_ring(bounds, caught.exception.value), True)
        self.assertGreater(told, 100)

    def test_wrong_names(self):
        for value in NOT_NAMES:
            other = [value]
            for bounds in ([], [("a", "b", 1)], [("a", "a", -1)]):
                self.refused(InvalidName, value, tightest, bounds, value, "a")
                self.refused(InvalidName, value, tightest, bounds, "a", value)
                self.refused(InvalidName, value, tightest, bounds, value, other)
                self.refused(InvalidName, other, tightest, y=value, x=other, bounds=bounds)

    def test_lists_and_tuples_alike(self):
        bounds = [["a", "b", -5], ["b", "c", 3]]
        self.assertEqual(tightest(y="c", x="a", bounds=bounds), -2)
        self.assertEqual(tightest(tuple(bounds), "a", "c"), -2)
        self.assertEqual(bounds, [["a", "b", -5], ["b", "c", 3]])


if __name__ == "__main__":
    unittest.main()
