"""Integers, names and times [2, 13, 14], and what holds for all arguments [6, 7, 8, 9, 10]."""

import unittest

from everyzone.errors import InvalidInteger, InvalidText, InvalidTime, NoProgram
from everyzone.words import (
    day_of, is_integer, is_name, is_time, reading_of, time_from, time_of, time_text,
)
from everyzone.zones import Zone
from tests.checking import LONG, Checking

# No integers, and values of every other sort; True and False are among them.
NOT_INTEGERS = [
    None, True, False, "", "1", "01:30", "a", (), (1,), [], [1], {}, {"a": 1}, {1: 1}, [[[[[1]]]]],
    Zone(0), Zone(1, [(5, 6)]), NoProgram(), InvalidTime(3), list(range(300)),
]


class IsInteger(unittest.TestCase):
    def test_within_and_beside_the_bounds(self):
        for value, told in ((2, False), (3, True), (4, True), (5, True), (6, False), (-4, False)):
            self.assertIs(is_integer(value, 3, 5), told, value)

    def test_bounds_are_within(self):
        self.assertIs(is_integer(7, 7, 7), True)
        self.assertIs(is_integer(-1, -1, 0), True)
        self.assertIs(is_integer(7, 8, 6), False)

    def test_thirty_digits(self):
        self.assertIs(is_integer(LONG, -LONG, LONG), True)
        self.assertIs(is_integer(-LONG, -LONG, LONG), True)
        self.assertIs(is_integer(LONG, 0, LONG - 1), False)
        self.assertIs(is_integer(-LONG, 1 - LONG, 0), False)

    def test_any_other_value(self):
        for value in NOT_INTEGERS:
            self.assertIs(is_integer(value, -LONG, LONG), False, value)

    def test_true_and_false_are_no_integers(self):
        self.assertIs(is_integer(True, 0, 1), False)
        self.assertIs(is_integer(False, 0, 1), False)

    def test_by_name(self):
        self.assertIs(is_integer(value=3, low=1, high=3), True)
        self.assertIs(is_integer(high=3, low=1, value=4), False)


class IsName(unittest.TestCase):
    def test_lengths(self):
        for length in range(10):
            self.assertIs(is_name("abcdefghij"[:length]), 1 <= length <= 8, length)
            self.assertIs(is_name(("z" + "0" * 9)[:length]), 1 <= length <= 8, length)

    def test_first_and_last_letters_and_digits(self):
        for value in ("a", "z", "a0", "a9", "az", "now", "x1y2z3", "return", "zzzzzzzz"):
            self.assertIs(is_name(value), True, value)

    def test_first_character_is_a_letter(self):
        for value in ("0", "9", "0a", "1name", "_a", " a", "-a"):
            self.assertIs(is_name(value), False, value)

    def test_characters_beside_letters_and_digits(self):
        for sign in " `{/:@[_-.AZ\n~!" + "\u00e9\u0661\u00aa\u00b2":
            self.assertIs(is_name("a" + sign), False, sign)
            self.assertIs(is_name(sign + "a"), False, sign)
            self.assertIs(is_name(sign), False, sign)

    def test_any_other_value(self):
        for value in [0, 1, LONG, ["a"], ("a",), {"a": "a"}, ["a", "b"]] + NOT_INTEGERS:
            self.assertIs(is_name(value), value == "a", value)

    def test_by_name(self):
        self.assertIs(is_name(value="abc"), True)


class IsTime(unittest.TestCase):
    def test_bounds(self):
        for value, told in ((-1, False), (0, True), (1, True), (720, True), (1438, True), (1439, True),
                            (1440, False), (LONG, False), (-LONG, False)):
            self.assertIs(is_time(value), told, value)

    def test_any_other_value(self):
        for value in NOT_INTEGERS:
            self.assertIs(is_time(value), False, value)

    def test_by_name(self):
        self.assertIs(is_time(value=0), True)


class Readings(Checking):
    def test_example_of_the_document(self):
        told = [day_of(-1), time_of(-1), reading_of(2, 90), time_text(90), time_from("23:59")]
        self.assertEqual(told, [-1, 1439, 2970, "01:30", 1439])

    def test_day_and_time_at_midnights(self):
        for day in (-2, -1, 0, 1, 2):
            midnight = day * 1440
            self.assertEqual((day_of(midnight - 1), time_of(midnight - 1)), (day - 1, 1439))
            self.assertEqual((day_of(midnight), time_of(midnight)), (day, 0))
            self.assertEqual((day_of(midnight + 1), time_of(midnight + 1)), (day, 1))
            self.assertEqual((day_of(midnight + 1439), time_of(midnight + 1439)), (day, 1439))

    def test_reading_of_turns_both_round(self):
        for reading in (-LONG, -2881, -1441, -1440, -1439, -1, 0, 1, 1439, 1440, 1441, LONG):
            self.assertEqual(reading_of(day_of(reading), time_of(reading)), reading)
            self.assertTrue(is_time(time_of(reading)))

    def test_reading_of(self):
        for day, time, reading in ((0, 0, 0), (0, 1439, 1439), (1, 0, 1440), (-1, 0, -1440), (-1, 1439, -1)):
            self.assertEqual(reading_of(day, time), reading)
        self.assertEqual(reading_of(LONG, 5), LONG * 1440 + 5)

    def test_wrong_readings(self):
        for value in NOT_INTEGERS:
            self.refused(InvalidInteger, value, day_of, value)
            self.refused(InvalidInteger, value, time_of, value)

    def test_wrong_days_and_times(self):
        for value in NOT_INTEGERS:
            self.refused(InvalidInteger, value, reading_of, value, 0)
            self.refused(InvalidTime, value, reading_of, 0, value)
        for value in (-1, 1440, LONG, -LONG):
            self.refused(InvalidTime, value, reading_of, 0, value)

    def test_the_day_is_checked_before_the_time(self):
        day, time = [1], [2]
        self.refused(InvalidInteger, day, reading_of, day, time)
        self.refused(InvalidInteger, day, reading_of, time=-1, day=day)

    def test_by_name(self):
        self.assertEqual(day_of(reading=1440), 1)
        self.assertEqual(time_of(reading=1441), 1)
        self.assertEqual(reading_of(time=3, day=1), 1443)


class Texts(Checking):
    def test_time_text(self):
        for time, text in ((0, "00:00"), (1, "00:01"), (59, "00:59"), (60, "01:00"), (599, "09:59"),
                           (600, "10:00"), (1200, "20:00"), (1439, "23:59")):
            self.assertEqual(time_text(time), text)

    def test_each_time_has_a_text_of_its_own(self):
        texts = [time_text(time) for time in range(1440)]
        self.assertEqual([time_from(text) for text in texts], list(range(1440)))
        self.assertEqual({len(text) for text in texts}, {5})
        self.assertEqual(texts, sorted(texts))

    def test_wrong_times(self):
        for value in [-1, 1440, LONG] + NOT_INTEGERS:
            self.refused(InvalidTime, value, time_text, value)

    def test_strings_near_the_form(self):
        near = ["", ":", "1:30", "01:3", "0130", "01:300", "001:30", "01:30:", "01:30:00", "01-30", "01;30",
                "01 30", " 01:30", "01:30 ", "01:30\n", "\n01:30", " 1:30", "01: 3", "+1:30", "-1:30", "01:+3",
                "01:-3", "0_:30", "01:3_", "1_:00", "24:00", "24:59", "25:00", "30:00", "99:00", "00:60", "23:60", "00:99",
                "0a:00", "00:0a", "ab:cd", "::::::", "0:::0", "01:3o", "0130:", ":0130", "012:3", "0:123"]
        for text in near:
            self.refused(InvalidText, text, time_from, text)

    def test_any_other_character_at_each_place(self):
        for place in range(5):
            for sign in map(chr, [10, *range(32, 127)]):
                text = "12:34"[:place] + sign + "12:34"[place + 1:]
                if not (sign in "0123456789" and place != 2 or sign == ":" and place == 2):
                    self.refused(InvalidText, text, time_from, text)

    def test_digits_of_other_scripts(self):
        for text in ("\u0660\u0661:00", "01:3\u0660", "0\u00b2:00"):
            self.refused(InvalidText, text, time_from, text)

    def test_any_other_value(self):
        for value in [0, 90, ["01:30"], list("01:30"), tuple("01:30"), [0, 1, ":", 3, 0]] + NOT_INTEGERS:
            if value != "01:30":
                self.refused(InvalidText, value, time_from, value)

    def test_by_name(self):
        self.assertEqual(time_text(time=61), "01:01")
        self.assertEqual(time_from(text="01:01"), 61)


if __name__ == "__main__":
    unittest.main()
