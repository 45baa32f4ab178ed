"""Programs as texts [41, 42, 43, 44], and what holds for all arguments [6, 7, 8, 9, 10]."""

import itertools
import unittest

from everyzone.errors import InvalidLine, InvalidText, NotProgram, UnknownName
from everyzone.programs import Program
from tests.checking import LONG, OTHERS, Checking

EXAMPLE = "start 00:00 23:59\nr = read now\ns = days r 1\nm = place s ahead\nn = between now m\nreturn n"

# One name of each kind besides `now`; lines are tried out behind these, as the line with the index 5.
BOUND = ["r = read now", "m = place r ahead", "n = time r", "b = before now m"]
NAMES = {"now": "moment", "r": "reading", "m": "moment", "n": "number", "b": "truth"}
# The words with the text behind their first name, the kinds that this may have, and the kind of what they give.
WORDS = {
    "read": ("", ["moment"], "reading"),
    "place": (" strict", ["reading"], "moment"),
    "add": (" 5", ["moment", "reading"], None),
    "days": (" 5", ["reading"], "reading"),
    "at": (" 05:00", ["reading"], "reading"),
    "time": ("", ["reading"], "number"),
    "day": ("", ["reading"], "number"),
}
NUMBERS = {"between": "number", "before": "truth"}


def text_with(*lines, start="start 00:00 23:59", end="return n"):
    """A text with lines of its own behind those that bind one name of each kind."""
    return "\n".join([start, *BOUND, *lines, end])


class Lines(Checking):
    def wrong(self, index, text):
        """The text is refused, with the index of the line that is wrong."""
        with self.assertRaises(InvalidLine) as caught:
            Program(text)
        self.assertIs(type(caught.exception), InvalidLine)
        self.assertEqual(vars(caught.exception), {"index": index}, text)
        self.assertIs(type(caught.exception.index), int)

    def wrong_line(self, line):
        """The line is refused behind those that bind one name of each kind."""
        self.wrong(5, text_with(line))
        self.wrong(5, text_with(line, "x = no line", end="no end"))

    def gives(self, kind, line):
        """The line binds the name x to a value of a kind."""
        program = Program(text_with(line))
        self.assertEqual(program.kind_of("x"), kind, line)
        self.assertEqual(program.lines()[-1], line.split(" "))


class Examples(Lines):
    def test_example_of_the_document(self):
        program = Program(EXAMPLE)
        told = [len(program), program.kind_of("m"), program.reach(), "s" in program, program.lines()[2],
                program.answers()]
        self.assertEqual(told, [4, "moment", 1440, True, ["m", "=", "place", "s", "ahead"], ["n"]])
        self.wrong(2, "start 00:00 23:59\nr = read now\nn = between now r\nreturn n")


class Forms(Lines):
    def test_each_word_with_each_kind(self):
        for word, (rest, kinds, told) in WORDS.items():
            for name, kind in NAMES.items():
                line = f"x = {word} {name}{rest}"
                if kind in kinds:
                    self.gives(told or kind, line)
                else:
                    self.wrong_line(line)

    def test_two_names_of_each_kind(self):
        for word, told in NUMBERS.items():
            for one, other in itertools.product(NAMES, NAMES):
                line = f"x = {word} {one} {other}"
                if NAMES[one] == NAMES[other] and NAMES[one] in ("moment", "reading"):
                    self.gives(told, line)
                else:
                    self.wrong_line(line)

    def test_each_rule(self):
        for rule in ("ahead", "behind", "strict"):
            self.gives("moment", f"x = place r {rule}")
        for rule in ("", "Ahead", "STRICT", "aheads", "a", "now", "r", "5", "00:00", "gap"):
            self.wrong_line(f"x = place r {rule}")

    def test_words_left_out_and_put_in(self):
        good = [f"x = {word} r{rest}" for word, (rest, kinds, told) in WORDS.items() if "reading" in kinds]
        good += ["x = read now", "x = add now -7", "x = between now m", "x = before r r"]
        for line in good:
            Program(text_with(line))
            words = line.split(" ")
            for place in range(len(words)):
                self.wrong_line(" ".join(words[:place] + words[place + 1:]))
                self.wrong_line(" ".join(words[:place]))
            for place in range(len(words) + 1):
                for word in ("=", "r", "now", "5", "x", "strict", "00:00", "read", ""):
                    self.wrong_line(" ".join(words[:place] + [word] + words[place:]))

    def test_words_of_another_kind(self):
        for line in ("x = r", "x = 5", "x = now", "x = copy r", "x = Read now", "x = reads now", "x = sub r 5",
                     "x == read now", "x : read now", "x - read now", "x = = read now", "read = x now", "= x read now",
                     "x = read 5", "x = time 00:00", "x = add 5 r", "x = add r r", "x = add r 05:00", "x = days r n",
                     "x = at r 5", "x = at r n", "x = between r 5", "x = between 5 r", "x = before now now now",
                     "x = place ahead r", "x = return n", "x = start 00:00 23:59", "", " ", "x", "x =", "# words"):
            self.wrong_line(line)

    def test_blanks(self):
        for line in ("x = read now", "x = add r 5", "x = between r r", "x = at r 05:00"):
            words = line.split(" ")
            for place in range(1, len(words)):
                self.wrong_line(" ".join(words[:place]) + "  " + " ".join(words[place:]))
            for other in (" " + line, line + " ", "\t" + line, line + "\r", line.replace(" ", "\t"),
                          line.replace("x =", "x=")):
                self.wrong_line(other)


class Names(Lines):
    def test_unknown_names(self):
        for name in ("x", "y", "return", "start", "R", "rr", "nowhere", "", "1", "0", "-", "strict"):
            for line in ("x = read {}", "x = place {} ahead", "x = add {} 1", "x = days {} 1", "x = at {} 00:00",
                         "x = time {}", "x = day {}", "x = between {} r", "x = between r {}", "x = between now {}",
                         "x = before {} m", "x = before m {}", "x = before {0} {0}"):
                self.wrong_line(line.format(name))

    def test_names_are_bound_from_the_next_line_on(self):
        self.wrong(1, "start 00:00 23:59\ns = add r 1\nr = read now\nn = time r\nreturn n")
        self.wrong(1, "start 00:00 23:59\nr = read r\nn = time r\nreturn n")
        self.wrong(2, "start 00:00 23:59\nr = read now\nn = time s\nreturn n")

    def test_names_that_are_bound_already(self):
        for name in ("now", "return", "r", "m", "n", "b"):
            for line in ("{} = read now", "{} = time r", "{} = add m 0"):
                self.wrong_line(line.format(name))
        self.wrong(2, "start 00:00 23:59\nr = read now\nr = read now\nn = time r\nreturn n")

    def test_names_of_one_to_eight_characters(self):
        for name in ("a", "z", "a0", "abcdefgh", "z9999999", "q1w2e3r4"):
            self.assertIn(name, Program(text_with(f"{name} = read now")))
            self.assertEqual(Program(text_with(f"{name} = time r", end=f"return {name}")).answers(), [name])
        for name in ("", "abcdefghi", "z99999999", "1", "1a", "A", "aB", "a_b", "_a", "a-b", "a.b", "a=", "\u00e4"):
            self.wrong_line(f"{name} = read now")

    def test_words_of_lines_are_names_as_well(self):
        words = ["start", "read", "place", "add", "days", "at", "time", "day"]
        lines = [f"{word} = time r" for word in words[1:4]]
        program = Program(text_with(*lines, end="return read place add"))
        self.assertEqual(program.answers(), ["read", "place", "add"])
        for word in [*words, "between", "before", "ahead", "behind", "strict", "returns", "no", "nowa"]:
            self.assertEqual(Program(text_with(f"{word} = time r")).kind_of(word), "number")
        self.assertEqual(Program(text_with("read = read now", "time = time read")).kind_of("time"), "number")


class Numbers(Lines):
    def test_bounds_of_minutes(self):
        for name, kind in (("now", "moment"), ("r", "reading")):
            for number in ("0", "1", "-1", "10", "-10", "60", "99999", "-99999", "100000", "-100000"):
                self.gives(kind, f"x = add {name} {number}")
            for number in ("100001", "-100001", "999999", "1000000", "-1000000", str(LONG), str(-LONG), "9" * 1900):
                self.wrong_line(f"x = add {name} {number}")

    def test_bounds_of_days(self):
        for number in ("0", "1", "-1", "9", "10", "59", "-59", "60", "-60"):
            self.gives("reading", f"x = days r {number}")
        for number in ("61", "-61", "99", "100", "-100", "1440", "100000", str(LONG)):
            self.wrong_line(f"x = days r {number}")

    def test_forms_of_numbers(self):
        for number in ("-0", "+0", "+1", "01", "-01", "00", "--1", "-", "", "1-", "1.0", "1e1", "0x1", "1_0", "1,0",
                       "a", "True", "None", " 1", "1\t", "\u0661", "\u00b2", "1:00"):
            self.wrong_line(f"x = add r {number}")
            self.wrong_line(f"x = days r {number}")

    def test_times(self):
        for time in ("00:00", "00:01", "09:59", "10:00", "19:30", "23:59"):
            self.gives("reading", f"x = at r {time}")
        for time in ("24:00", "9:00", "23:60", "00:60", "99:99", "0900", "09-00", "009:00", "09:000", "09:0", "+9:00",
                     "-1:00", " 9:00", "09:00:00", "540", ""):
            self.wrong_line(f"x = at r {time}")


class Starts(Lines):
    def text(self, line):
        """A text with this first line."""
        return text_with(start=line)

    def test_least_and_greatest_times(self):
        for low, high, told in (("00:00", "23:59", (0, 1439)), ("00:00", "00:00", (0, 0)), ("08:00", "17:30", (480, 1050)),
                                ("23:59", "23:59", (1439, 1439)), ("11:59", "12:00", (719, 720))):
            program = Program(self.text(f"start {low} {high}"))
            self.assertEqual((program.low, program.high), told)

    def test_low_later_than_high(self):
        for low, high in (("00:01", "00:00"), ("23:59", "00:00"), ("17:00", "08:00"), ("10:00", "09:59")):
            self.wrong(0, self.text(f"start {low} {high}"))

    def test_wrong_first_lines(self):
        for line in ("", "start", "start 00:00", "start 00:00 23:59 23:59", "00:00 23:59", "Start 00:00 23:59",
                     "begin 00:00 23:59", "start  00:00 23:59", "start 00:00  23:59", " start 00:00 23:59",
                     "start 00:00 23:59 ", "start 00:00 24:00", "start 9:00 10:00", "start 09:00 9:30", "start 0 1439",
                     "start 24:00 24:00", "start 00:60 01:00", "start 00:00-23:59", "r = read now", "return n"):
            self.wrong(0, self.text(line))
            self.wrong(0, line)

    def test_low_and_high_are_properties(self):
        program = Program(EXAMPLE)
        for name in ("low", "high"):
            with self.assertRaises(AttributeError):
                setattr(program, name, 5)
        self.assertEqual((program.low, program.high), (0, 1439))


class Ends(Lines):
    def test_one_to_four_answers(self):
        for names in (["n"], ["b"], ["n", "b"], ["b", "n", "b"], ["n", "n"], ["n", "n", "n", "n"], ["b", "n", "n", "b"]):
            self.assertEqual(Program(text_with(end=" ".join(["return", *names]))).answers(), names)

    def test_no_answer_and_five(self):
        for end in ("return", "return n n n n n", "return n b n b n", "return b b b b b b"):
            self.wrong(5, text_with(end=end))

    def test_answers_are_bound_numbers_and_truths(self):
        for name in ("now", "r", "m", "x", "return", "N", "5", "", "true"):
            for end in (f"return {name}", f"return n {name}", f"return {name} n", f"return n b n {name}"):
                self.wrong(5, text_with(end=end))

    def test_form_of_the_last_line(self):
        for end in ("Return n", "returns n", "return  n", " return n", "return n ", "return n  b", "return n,b",
                    "return = n", "return\tn", "n", "return n\r"):
            self.wrong(5, text_with(end=end))

    def test_the_last_line_is_missing(self):
        for many in range(1, 6):
            self.wrong(many, "\n".join(["start 00:00 23:59", *BOUND][:many]))
        lines = [f"x{number} = time r" for number in range(4)]
        self.wrong(9, "\n".join(["start 00:00 23:59", *BOUND, *lines]))
        self.wrong(0, "")
        self.wrong(1, "start 00:00 23:59\n")
        self.wrong(0, "return n")

    def test_the_line_behind_the_last_one(self):
        for line in ("", " ", "return n", "x = read now", "start 00:00 23:59", "\n"):
            self.wrong(6, text_with() + "\n" + line)
            self.wrong(6, text_with() + "\n" + line + "\nreturn n")
        self.wrong(2, "start 00:00 23:59\nr = read now\nreturn r\nn = time r\nreturn n")
        self.wrong(6, text_with("return b", "x = read now"))
        self.wrong(5, text_with("return r"))

    def test_the_first_line_that_is_wrong_is_told(self):
        self.wrong(0, "start 00:00 24:00\nr = no\nreturn")
        self.wrong(1, "start 00:00 23:59\nr = no\nreturn")
        self.wrong(3, "start 00:00 23:59\nr = read now\nn = time r\nx = no\ny = no\nreturn n\nreturn n")
        self.wrong(2, "start 00:00 23:59\nr = read now\nr = no\nreturn r\nn = time r")

    def test_line_ends_are_line_feeds(self):
        for sign in ("\r\n", "\r", "\x0b", "\x0c", "\x85", "\u2028", "; ", " "):
            self.wrong(0, EXAMPLE.replace("\n", sign))
        self.wrong(1, EXAMPLE.replace("\n", "\n\n", 1))


class Sizes(Lines):
    def lines(self, many):
        """So many lines, from one to nine."""
        return ["n = between now now", *[f"x{number} = add now {number}" for number in range(2, many + 1)]]

    def test_no_line(self):
        for end in ("return n", "return now", "return"):
            self.wrong(1, f"start 00:00 23:59\n{end}")

    def test_one_to_eight_lines(self):
        for many in range(1, 9):
            program = Program("\n".join(["start 00:00 23:59", *self.lines(many), "return n"]))
            self.assertEqual(len(program), many)
            self.assertEqual(program.lines(), [line.split(" ") for line in self.lines(many)])

    def test_nine_lines(self):
        for rest in (["return n"], [], ["x10 = read now", "return n"], ["no"]):
            self.wrong(9, "\n".join(["start 00:00 23:59", *self.lines(9), *rest]))
        self.wrong(9, "\n".join(["start 00:00 23:59", *self.lines(8), "no", "return n"]))
        self.wrong(8, "\n".join(["start 00:00 23:59", *self.lines(7), "no", *self.lines(9)[8:], "return n"]))

    def test_long_texts(self):
        self.wrong(1, "start 00:00 23:59\n" + "x" * 1900)
        self.wrong(5, text_with(end="return" + " n" * 900))
        self.wrong(2, "start 00:00 23:59\nr = read now\n" + "\n" * 1900)


class Telling(Lines):
    def test_things_that_are_no_strings(self):
        for value in [0, 5, LONG, *OTHERS, EXAMPLE.encode(), EXAMPLE.split("\n"), (EXAMPLE,), Program(EXAMPLE)]:
            self.refused(InvalidText, value, Program, value)

    def test_the_text(self):
        for text in (EXAMPLE, text_with(), text_with("x = add r -5", end="return b n b")):
            self.assertEqual(str(Program(text)), text)
            self.assertEqual(Program(str(Program(text))), Program(text))

    def test_lines_and_answers_are_new_lists(self):
        program = Program(text_with("x = read now", "y = time r", end="return y n y"))
        told = [line.split(" ") for line in [*BOUND, "x = read now", "y = time r"]]
        self.assertEqual(program.lines(), told)
        self.assertEqual({type(line) for line in [program.lines(), program.answers(), *program.lines()]}, {list})
        for call in (program.lines, program.answers):
            self.returns_new_lists(call)
        self.assertEqual((program.lines(), program.answers(), len(program)), (told, ["y", "n", "y"], 6))
        self.assertEqual((program.kind_of("x"), program.reach(), "y" in program), ("reading", 0, True))
        self.assertEqual(str(program), text_with("x = read now", "y = time r", end="return y n y"))

    def test_names_within(self):
        program = Program(text_with())
        for name in NAMES:
            self.assertIs(name in program, True)
        for value in ["", "x", "R", "return", "start", "read", "ahead", "=", "now ", "nn", "00:00", 0, 5, *OTHERS,
                      program, ["n"], ("n",), {"n": 1}]:
            self.assertIs(value in program, False)

    def test_kinds_of_names(self):
        program = Program(text_with("x1 = add r 1", "x2 = add x1 1", "x3 = add m 1", "x4 = before x2 r"))
        for name, kind in {**NAMES, "x1": "reading", "x2": "reading", "x3": "moment", "x4": "truth"}.items():
            self.assertEqual(program.kind_of(name), kind)
            self.assertEqual(program.kind_of(name=name), kind)

    def test_kinds_of_unknown_names(self):
        program = Program(text_with())
        for value in ["", "x", "N", "return", "start", "moment", "now ", 0, 5, *OTHERS, program, ["n"], ("n",)]:
            self.refused(UnknownName, value, program.kind_of, value)

    def test_equal_programs(self):
        self.assertTrue(Program(EXAMPLE) == Program(text=EXAMPLE))
        self.assertFalse(Program(EXAMPLE) != Program(EXAMPLE))
        texts = [EXAMPLE, EXAMPLE.replace("days r 1", "days r 2"), EXAMPLE.replace("start 00:00", "start 00:01"),
                 EXAMPLE.replace("ahead", "behind"), EXAMPLE + " n", text_with(), text_with(end="return b"),
                 EXAMPLE.replace("s", "q").replace("qtart", "start").replace("dayq", "days")]
        for one, other in itertools.product(texts, texts):
            self.assertEqual(Program(one) == Program(other), one == other)
            self.assertEqual(Program(one) != Program(other), one != other)

    def test_programs_equal_nothing_else(self):
        program = Program(EXAMPLE)
        for value in [EXAMPLE, EXAMPLE.split("\n"), [EXAMPLE], 0, *OTHERS, NotProgram(program)]:
            self.assertFalse(program == value)
            self.assertFalse(value == program)
            self.assertTrue(program != value)


class Reach(Lines):
    def test_each_word(self):
        for line, told in (("x = add now 0", 0), ("x = add now 7", 7), ("x = add r -7", 7), ("x = add r -100000", 100000),
                           ("x = days r 0", 0), ("x = days r 1", 1440), ("x = days r -60", 86400),
                           ("x = at r 00:00", 1440), ("x = at r 00:05", 1440), ("x = at r 23:59", 1440),
                           ("x = read now", 0), ("x = place r behind", 0), ("x = time r", 0), ("x = day r", 0),
                           ("x = between r r", 0), ("x = before m m", 0)):
            self.assertEqual(Program(text_with(line)).reach(), told, line)

    def test_sums(self):
        self.assertEqual(Program(text_with()).reach(), 0)
        lines = ["s = days r -2", "t = at s 01:00", "u = add t -30", "v = add m 30"]
        for many, told in enumerate((0, 2880, 4320, 4350, 4380)):
            self.assertEqual(Program(text_with(*lines[:many])).reach(), told)
        most = [f"x{number} = days r 60" for number in range(4)]
        self.assertEqual(Program(text_with(*most)).reach(), 345600)


if __name__ == "__main__":
    unittest.main()
