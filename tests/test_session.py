"""Sessions [141, 142, 143, 144, 145], and what holds for all arguments [6, 7, 8, 9, 10]."""

import random
import unittest

from everyzone.cases import cases
from everyzone.comparing import needless
from everyzone.errors import (
    Duplicate, InvalidCommand, InvalidInteger, InvalidJump, InvalidLine, InvalidPart, NoAnswer, NoLine, NoProgram, NotKind,
    NotProgram, NotStart, NothingToUndo,
)
from everyzone.faults import faults
from everyzone.kinds import Kind
from everyzone.outcomes import values_of
from everyzone.programs import Program
from everyzone.running import run
from everyzone.session import Session
from everyzone.texts import kind_text
from everyzone.zones import Zone
from tests.checking import LONG, OTHERS, Checking
from tests.worlds import day_text

KIND = Kind([60], 5000)
TEN_HOURS = "start 08:00 17:00\nm = add now 600\nn = between now m\nreturn n"
NOT_OBJECTS = ["", "kind", 0, 60, *OTHERS]
QUESTIONS = ["cases", "answers 0", "needless", "faults", "run 600 0"]
PLAIN_QUESTIONS = ["show", "kind", "changes"]
EMPTY = NoProgram, NothingToUndo


class Talking(Checking):
    def state(self, session):
        """All that a session tells of itself."""
        asked = [session.say(line) for line in PLAIN_QUESTIONS]
        return session.kind(), session.program(), session.text(), session.done(), len(session), asked

    def refused_line(self, error, session, line, value=None, given=False):
        """A command is refused, and the session is as before, also for undo and redo."""
        kept = self.state(session)
        with self.assertRaises((ValueError, KeyError, LookupError)) as caught:
            session.say(line)
        self.assertIs(type(caught.exception), error, line)
        fields = list(vars(caught.exception).values())
        if error in EMPTY:
            self.assertEqual(fields, [])
        elif given:
            self.assertIs(fields[0], line)
        else:
            self.assertEqual((type(fields[0]), fields), (type(value), [value]))
        self.assertEqual(self.state(session), kept)

    def check(self, session, kind, program, done):
        """The state of a session, told by each of its methods."""
        lines = [] if program is None else str(program).split("\n")
        self.assertEqual(self.state(session), (kind, program, lines, done, len(done), [lines, [kind_text(kind)], done]))


class Making(Talking):
    def test_with_a_program_and_without_one(self):
        self.check(Session(KIND), KIND, None, [])
        self.check(Session(KIND, None), KIND, None, [])
        self.check(Session(program=None, kind=KIND), KIND, None, [])
        self.check(Session(program=Program(TEN_HOURS), kind=KIND), KIND, Program(TEN_HOURS), [])

    def test_wrong_arguments(self):
        programs = [value for value in [*NOT_OBJECTS, KIND, TEN_HOURS] if value is not None]
        wrong = [("kind", NotKind, [*NOT_OBJECTS, Program(TEN_HOURS)]), ("program", NotProgram, programs)]
        self.refused_in_order(Session, {"kind": KIND, "program": Program(TEN_HOURS)}, wrong)

    def test_sessions_equal_only_themselves(self):
        one, other = Session(KIND), Session(KIND)
        self.assertFalse(one == other)
        self.assertTrue(one == one)


class Examples(Talking):
    def test_examples_of_the_document(self):
        session = Session(KIND)
        self.refused_line(InvalidLine, session, "program start 00:00 23:59 | return n", 1)
        session = Session(KIND, Program(TEN_HOURS))
        told = [session.say(line) for line in ("answers 0", "replace 1 m = add now 700", "answers 0", "undo", "run 600 0")]
        self.assertEqual(told, [["600 600"], [], ["700 700"], [], ["600"]])


class Changes(Talking):
    def test_program(self):
        session = Session(KIND)
        line = "program " + TEN_HOURS.replace("\n", " | ")
        self.assertEqual(session.say(line), [])
        self.check(session, KIND, Program(TEN_HOURS), [line])
        other = "program start 00:00 23:59 | n = between now now | return n"
        self.assertEqual(session.say(other), [])
        self.check(session, KIND, Program("start 00:00 23:59\nn = between now now\nreturn n"), [line, other])

    def test_wrong_programs(self):
        for session in (Session(KIND), Session(KIND, Program(TEN_HOURS))):
            for text, index in (("x", 0), ("start 00:00 23:59", 1), ("start 00:00 23:59 | return n", 1), ("|", 0), ("| |", 0),
                                ("| start 00:00 23:59 | return n", 0), ("start 00:00 23:59 | | return n", 1),
                                ("start 00:00 23:59 |", 0), ("start 00:00 23:59 | n = between now now |", 1),
                                ("start 00:00 23:59|return n", 0), ("start 00:00 23:59 | n = between now now | return n |", 2),
                                ("start 00:00 23:59 | n = between now now | return n | x", 3),
                                ("start 00:00 23:59 || n = between now now | return n", 0),
                                ("start 00:00 23:59 | n = between now now | | return n", 2)):
                self.refused_line(InvalidLine, session, f"program {text}", index)

    def test_put(self):
        lines = TEN_HOURS.split("\n")
        for index in range(1, 4):
            session = Session(KIND, Program(TEN_HOURS))
            line = f"put {index} x = add now 7"
            self.assertEqual(session.say(line), [])
            program = Program("\n".join([*lines[:index], "x = add now 7", *lines[index:]]))
            self.check(session, KIND, program, [line])
            self.assertEqual(session.text()[index], "x = add now 7")

    def test_put_at_the_end_and_behind_it(self):
        session = Session(KIND, Program(TEN_HOURS))
        self.refused_line(InvalidLine, session, "put 4 x = add now 7", 4)
        self.refused_line(InvalidLine, session, "put 4 return n", 4)
        self.refused_line(InvalidLine, session, "put 0 x = add now 7", 0)
        self.refused_line(InvalidLine, session, "put 0 start 08:00 17:00", 1)
        for index in (5, 6, 10, 99):
            self.refused_line(NoLine, session, f"put {index} x = add now 7", index)

    def test_take(self):
        text = TEN_HOURS.replace("n = ", "x = add m 5\nn = ")
        session = Session(KIND, Program(text))
        self.assertEqual(session.say("take 2"), [])
        self.check(session, KIND, Program(TEN_HOURS), ["take 2"])
        for index, wrong in ((0, 0), (1, 1), (2, 2), (3, 3)):
            self.refused_line(InvalidLine, session, f"take {index}", wrong)
        for index in (4, 5, 99):
            self.refused_line(NoLine, session, f"take {index}", index)

    def test_replace(self):
        session = Session(KIND, Program(TEN_HOURS))
        for index, line in enumerate(["start 00:00 23:59", "m = add now -5", "n = between m now", "return n n"]):
            self.assertEqual(session.say(f"replace {index} {line}"), [])
            self.assertEqual(session.text()[index], line)
        program = Program("start 00:00 23:59\nm = add now -5\nn = between m now\nreturn n n")
        done = ["replace 0 start 00:00 23:59", "replace 1 m = add now -5", "replace 2 n = between m now", "replace 3 return n n"]
        self.check(session, KIND, program, done)
        for index, text, wrong in ((0, "begin 00:00 23:59", 0), (1, "m = add now 100001", 1), (2, "k = between m now", 3),
                                   (3, "n = between m now", 3), (3, "return m", 3), (1, "m = add now 5 | x = add now 5", 1)):
            self.refused_line(InvalidLine, session, f"replace {index} {text}", wrong)
        for index in (4, 5, 99):
            self.refused_line(NoLine, session, f"replace {index} return n", index)

    def test_the_greatest_number_of_lines(self):
        session = Session(KIND, Program(TEN_HOURS))
        for place in range(6):
            session.say(f"put 1 x{place} = add now {place}")
        self.assertEqual(len(session.program()), 8)
        self.refused_line(InvalidLine, session, "put 1 y = add now 0", 9)
        self.refused_line(NoLine, session, "put 11 y = add now 0", 11)
        self.refused_line(NoLine, session, "take 10", 10)
        self.assertEqual(len(session), 6)

    def test_lines_of_a_session_without_a_program(self):
        session = Session(KIND)
        for line in ("put 0 x", "put 99 x", "take 0", "take 99", "replace 0 x", "replace 99 x"):
            self.refused_line(NoProgram, session, line)

    def test_jumps_apart_and_most(self):
        session = Session(Kind([60], 5000, 1), Program(TEN_HOURS))
        lines = ["jumps 30 -30 1 -1", "apart 61", "most 3", "jumps 30", "apart 61", "most 0", f"apart {LONG}"]
        kinds = [Kind([30, -30, 1, -1], 5000, 1), Kind([30, -30, 1, -1], 61, 1), Kind([30, -30, 1, -1], 61, 3),
                 Kind([30], 61, 3), Kind([30], 61, 3), Kind([30], 61, 0), Kind([30], LONG, 0)]
        for place, (line, kind) in enumerate(zip(lines, kinds), 1):
            self.assertEqual(session.say(line), [])
            self.check(session, kind, Program(TEN_HOURS), lines[:place])

    def test_what_a_kind_refuses(self):
        session = Session(Kind([60], 130, 1))
        for line, error, value in (("jumps 0", InvalidJump, 0), ("jumps 60 721", InvalidJump, 721), ("jumps 60 60", Duplicate, 60),
                                   ("jumps 60 -60 7 7", Duplicate, 7), ("jumps 65", InvalidInteger, 130),
                                   ("jumps 720 -720", InvalidInteger, 130), ("apart 120", InvalidInteger, 120),
                                   ("apart -5", InvalidInteger, -5), ("apart 0", InvalidInteger, 0),
                                   ("most 4", InvalidInteger, 4), ("most -1", InvalidInteger, -1),
                                   (f"most {LONG}", InvalidInteger, LONG)):
            self.refused_line(error, session, line, value)
        session.say("jumps 64")
        self.assertEqual(session.kind(), Kind([64], 130, 1))

    def test_a_change_that_changes_nothing_counts(self):
        session = Session(KIND, Program(TEN_HOURS))
        for line in ("most 2", "most 2", "replace 3 return n", "jumps 60", "apart 5000"):
            session.say(line)
        self.check(session, KIND, Program(TEN_HOURS), ["most 2", "most 2", "replace 3 return n", "jumps 60", "apart 5000"])


class Questions(Talking):
    def test_show_kind_and_changes(self):
        session = Session(KIND)
        self.assertEqual([session.say(line) for line in PLAIN_QUESTIONS], [[], ["jumps 60; apart 5000; most 2"], []])
        session = Session(KIND, Program(TEN_HOURS))
        session.say("most 1")
        told = [session.say(line) for line in PLAIN_QUESTIONS]
        self.assertEqual(told, [TEN_HOURS.split("\n"), ["jumps 60; apart 5000; most 1"], ["most 1"]])

    def test_questions_change_nothing(self):
        session = Session(KIND, Program(TEN_HOURS))
        kept = self.state(session)
        for line in [*QUESTIONS, *PLAIN_QUESTIONS]:
            self.assertIs(type(session.say(line)), list)
            self.assertEqual(self.state(session), kept)

    def test_answers(self):
        text = "start 02:00 02:59\nr = read now\ns = days r 1\nm = place s {}\nn = between now m\nt = at r 02:30\nb = before t r\nreturn n b"
        for rule in ("ahead", "behind", "strict"):
            program = Program(text.format(rule))
            session = Session(Kind([60, -60, 1], 5000), program)
            numbers = [f"{low} {high}" for low, high in values_of(program, session.kind(), 0)]
            self.assertEqual(session.say("answers 0"), numbers + (["fails"] if rule == "strict" else []))
            self.assertEqual(session.say("answers 1"), ["false", "true"] + (["fails"] if rule == "strict" else []))
            self.assertEqual(session.say("most 0"), [])
            self.assertEqual([session.say("answers 0"), session.say("answers 1")], [["1440 1440"], ["false", "true"]])
        self.assertEqual(Session(Kind([-60], 5000), Program(day_text("strict"))).say("answers 0"), ["1440 1440", "1500 1500", "fails"])

    def test_answers_that_are_not_there(self):
        session = Session(KIND, Program(TEN_HOURS))
        for index in (1, 2, 4, 99):
            self.refused_line(NoAnswer, session, f"answers {index}", index)

    def test_the_other_questions(self):
        rows = ["start 00:00 23:59", "a = add now 0", "r = read a", "s = days r 1", "m = place s {}", "k = place r strict",
                "n = between k m", "return n n"]
        for rule in ("ahead", "behind", "strict"):
            for kind in (KIND, Kind([60, -30], 2000, 3), Kind([-1], 5000, 0)):
                program = Program("\n".join(rows).format(rule))
                session = Session(kind, program)
                self.assertEqual(session.say("cases"), [str(len(cases(program, kind)))])
                self.assertEqual(session.say("needless"), [str(index) for index in needless(program, kind)])
                self.assertEqual(session.say("faults"), [f"{index} {word}" for index, word in faults(program, kind)])
        self.assertEqual(Session(KIND, Program(TEN_HOURS)).say("cases"), ["1"])
        self.assertEqual(Session(KIND, Program(day_text("ahead"))).say("faults"), ["3 gap"])

    def test_run(self):
        program = Program("start 08:00 17:00\nr = read now\ns = at r 12:00\nb = before r s\nc = before s r\nt = time r\n"
                          "n = between r s\nreturn b c t n")
        session = Session(KIND, program)
        for moment, offset in ((480, 0), (0, 1000), (-60, 1440 * 10 ** 20 + 600), (10 ** 20, -(10 ** 20) + 1020)):
            told = run(program, Zone(offset), moment)
            words = [{True: "true", False: "false"}[item] if isinstance(item, bool) else str(item) for item in told]
            self.assertEqual(session.say(f"run {moment} {offset}"), words)
        self.assertEqual(session.say("run 480 0"), ["true", "false", "480", "240"])
        for moment, offset in ((479, 0), (1021, 0), (0, 479), (0, 0), (-1, 0), (LONG, LONG)):
            self.refused_line(NotStart, session, f"run {moment} {offset}", moment)
        self.assertEqual(Session(KIND, Program(day_text("strict"))).say(f"run {-LONG} {LONG}"), ["1440"])

    def test_questions_without_a_program(self):
        session = Session(KIND)
        for line in (*QUESTIONS, "answers 99", "run 0 -7"):
            self.refused_line(NoProgram, session, line)


WRONG_INDICES = ["-1", "100", "007", "01", "00", "-0", "+1", "", "x", "1.0", "1" * 30, "1" * 31, "0x1", "1e1", "True"]
WRONG_NUMBERS = ["+1", "01", "-0", "-01", "", "x", "1.5", "1" * 31, "-" + "1" * 31, "1,", "0x1", "None", "1_0"]


class Forms(Talking):
    def wrong_lines(self):
        """Lines that have none of the forms."""
        yield from ["", " ", "x", "\n", "Show", "SHOW", "shows", "done", "text", "exit", "show show", "kind 1", "changes 0",
                    "cases 0", "needless 0", "faults 3", "undo 1", "redo redo", "Undo", "undo ", " redo", "undo\n", "program",
                    "put", "put 1", "put x", "put return n", "take", "take 1 2", "take 1 x", "replace", "replace 1",
                    "replace return n", "jumps", "jumps 1 2 3 4 5", "apart", "apart 5000 6000", "most", "most 1 1", "answers",
                    "answers 0 0", "run", "run 0", "run 0 0 0", "answer 0", "case", "program\nx", "put 1\nx", "1 put x"]
        for line in ("show", "most 1", "program start 00:00 23:59 | n = between now now | return n", "take 1"):
            yield from [f" {line}", f"{line} ", line.replace(" ", "  ", 1) + "  ", f"{line}\n", f"\n{line}", f"{line}\nshow"]
        yield from ["program  start 00:00 23:59 | return n", "put 1  x = add now 5", "put  1 x = add now 5", "most  1"]
        for number in WRONG_INDICES:
            yield from [f"put {number} x = add now 7", f"take {number}", f"replace {number} return n", f"answers {number}"]
        for number in WRONG_NUMBERS:
            yield from [f"jumps {number}", f"jumps 60 {number}", f"jumps {number} 60 7", f"apart {number}", f"most {number}",
                        f"run {number} 0", f"run 0 {number}"]

    def test_wrong_commands(self):
        for session in (Session(KIND), Session(KIND, Program(TEN_HOURS))):
            for line in self.wrong_lines():
                self.refused_line(InvalidCommand, session, line, given=True)
            for line in [None, True, 0, 5, *OTHERS, ["show"], ("undo",), KIND, Program(TEN_HOURS)]:
                self.refused_line(InvalidCommand, session, line, given=True)

    def test_no_program_comes_ahead_of_the_rest(self):
        session = Session(KIND)
        for line in ("answers 5", "run 5 -7", "put 77 x", "take 77", "replace 77 x"):
            self.refused_line(NoProgram, session, line)
        for line in ("answers 100", "run 5", "put 100 x", "take 007", "replace -1 x", "cases 1"):
            self.refused_line(InvalidCommand, session, line, given=True)

    def test_indices_from_0_to_99(self):
        session = Session(KIND, Program(TEN_HOURS))
        for index in range(4, 100):
            self.refused_line(NoLine, session, f"take {index}", index)

    def test_by_name(self):
        session = Session(KIND, Program(TEN_HOURS))
        self.assertEqual(session.say(line="answers 0"), ["600 600"])
        self.assertEqual(session.say_all(lines=["answers 0"]), [["600 600"]])


class Undoing(Talking):
    def test_nothing_to_undo(self):
        session = Session(KIND, Program(TEN_HOURS))
        for line in ("undo", "redo"):
            self.refused_line(NothingToUndo, session, line)
        session.say("most 1")
        self.refused_line(NothingToUndo, session, "redo")
        session.say("undo")
        self.refused_line(NothingToUndo, session, "undo")
        session.say("redo")
        self.refused_line(NothingToUndo, session, "redo")

    def test_back_and_forth(self):
        session, states = Session(KIND), []
        lines = ["most 1", "program " + TEN_HOURS.replace("\n", " | "), "put 1 x = add now 5", "jumps 7 -7", "take 1", "apart 15"]
        states.append(self.state(session))
        for line in lines:
            session.say(line)
            states.append(self.state(session))
        for turn in range(3):
            for state in states[-2::-1]:
                self.assertEqual(session.say("undo"), [])
                self.assertEqual(self.state(session), state)
            self.refused_line(NothingToUndo, session, "undo")
            for state in states[1:]:
                self.assertEqual(session.say("redo"), [])
                self.assertEqual(self.state(session), state)
            self.refused_line(NothingToUndo, session, "redo")

    def test_a_new_change_makes_redo_impossible(self):
        session = Session(KIND)
        for line in ("most 1", "most 3", "undo", "undo", "most 0"):
            session.say(line)
        self.refused_line(NothingToUndo, session, "redo")
        self.check(session, Kind([60], 5000, 0), None, ["most 0"])
        session.say("undo")
        session.say("redo")
        self.check(session, Kind([60], 5000, 0), None, ["most 0"])

    def test_refused_commands_and_questions_leave_redo_possible(self):
        session = Session(KIND)
        session.say("most 1")
        session.say("undo")
        self.refused_line(InvalidInteger, session, "most 4", 4)
        self.refused_line(InvalidCommand, session, "most", given=True)
        self.refused_line(NoProgram, session, "cases")
        session.say("show")
        session.say_all(["kind", "changes"])
        session.say_all([])
        with self.assertRaises(InvalidInteger):
            session.say_all(["most 1", "most 4"])
        session.say("redo")
        self.check(session, Kind([60], 5000, 1), None, ["most 1"])

    def test_three_hundred_commands(self):
        rng, session = random.Random(144), Session(KIND, Program(TEN_HOURS))
        past, future, done = [], [], []
        most = 2
        for count in range(300):
            word = rng.choice(["most", "most", "undo", "redo"])
            if word == "most":
                past.append((most, list(done)))
                most, future = rng.randint(0, 3), []
                done = [*done, f"most {most}"]
                session.say(f"most {most}")
            else:
                source, target = (past, future) if word == "undo" else (future, past)
                if not source:
                    self.refused_line(NothingToUndo, session, word)
                    continue
                target.append((most, done))
                most, done = source.pop()
                session.say(word)
            self.check(session, Kind([60], 5000, most), Program(TEN_HOURS), done)


class Blocks(Talking):
    def test_results_and_one_change(self):
        for lines in (["most 1", "kind", "jumps 7", "changes", "answers 0"], ("most 1", "kind", "jumps 7", "changes", "answers 0")):
            session = Session(KIND, Program(TEN_HOURS))
            session.say("apart 6000")
            told = session.say_all(lines)
            self.assertEqual(told, [[], ["jumps 60; apart 6000; most 1"], [], ["apart 6000", "most 1", "jumps 7"], ["600 600"]])
            self.check(session, Kind([7], 6000, 1), Program(TEN_HOURS), ["apart 6000", "most 1", "jumps 7"])
            session.say("undo")
            self.check(session, Kind([60], 6000), Program(TEN_HOURS), ["apart 6000"])
            session.say("redo")
            self.check(session, Kind([7], 6000, 1), Program(TEN_HOURS), ["apart 6000", "most 1", "jumps 7"])
            session.say("undo")
            session.say("undo")
            self.check(session, KIND, Program(TEN_HOURS), [])

    def test_no_changes(self):
        session = Session(KIND, Program(TEN_HOURS))
        self.assertEqual(session.say_all([]), [])
        self.assertEqual(session.say_all(()), [])
        self.assertEqual(session.say_all(["show", "answers 0"]), [TEN_HOURS.split("\n"), ["600 600"]])
        self.refused_line(NothingToUndo, session, "undo")

    def test_undo_and_redo_are_refused_before_any_command(self):
        session = Session(KIND)
        session.say("most 1")
        session.say("undo")
        kept = self.state(session)
        undo, redo = "".join(["un", "do"]), "".join(["re", "do"])
        for lines, item in (([undo], undo), (["most 3", redo], redo), ([5, "x", "most 4", undo, redo], undo), ((redo, undo), redo)):
            self.refused(InvalidCommand, item, session.say_all, lines)
            self.assertEqual(self.state(session), kept)
        session.say("redo")
        self.assertEqual(session.done(), ["most 1"])

    def test_a_refused_command_takes_all_back(self):
        session = Session(KIND, Program(TEN_HOURS))
        session.say("most 1")
        kept = self.state(session)
        for last, error, value in (("most 4", InvalidInteger, 4), ("take 77", NoLine, 77), ("answers 3", NoAnswer, 3),
                                   ("run 0 0", NotStart, 0), ("take 0", InvalidLine, 0), ("jumps 721", InvalidJump, 721)):
            for lines in ([last], ["most 3", last], ["put 1 x = add now 5", "jumps 7", last, "most 2"], ["show", last, 5]):
                with self.assertRaises(error) as caught:
                    session.say_all(lines)
                self.assertEqual(list(vars(caught.exception).values()), [value])
                self.assertEqual(self.state(session), kept)
        for item in (5, None, ["undo"], ("redo",), "x", "undo ", " undo", "show  ", True):
            self.refused(InvalidCommand, item, session.say_all, ["most 3", item, "most 2"])
            self.assertEqual(self.state(session), kept)
        other = Session(KIND)
        with self.assertRaises(NoProgram):
            other.say_all(["most 3", "cases"])
        self.check(other, KIND, None, [])
        session.say("undo")
        self.check(session, KIND, Program(TEN_HOURS), [])

    def test_a_program_of_the_same_block(self):
        session = Session(KIND)
        told = session.say_all(["program " + TEN_HOURS.replace("\n", " | "), "replace 1 m = add now 7", "answers 0", "show"])
        self.assertEqual(told[2:], [["7 7"], TEN_HOURS.replace("600", "7").split("\n")])
        self.assertEqual(len(session), 2)
        session.say("undo")
        self.check(session, KIND, None, [])
        self.refused_line(NoProgram, session, "cases")

    def test_not_a_list(self):
        session = Session(KIND)
        for value in [None, True, 5, "", "undo", "most 1", {}, {"most 1": 1}, Zone(0), KIND]:
            self.refused(InvalidPart, value, session.say_all, value)

    def test_blocks_and_single_changes(self):
        session = Session(KIND)
        session.say("most 1")
        session.say_all(["most 2", "most 3"])
        session.say("most 0")
        session.say_all(["kind"])
        lists = [session.done()]
        for turn in range(3):
            session.say("undo")
            lists.append(session.done())
        self.assertEqual(lists, [["most 1", "most 2", "most 3", "most 0"], ["most 1", "most 2", "most 3"], ["most 1"], []])
        session.say("redo")
        session.say("redo")
        self.assertEqual(session.done(), ["most 1", "most 2", "most 3"])
        session.say_all(["most 2"])
        self.refused_line(NothingToUndo, session, "redo")


class Objects(Talking):
    def test_told_lists_may_be_changed(self):
        session = Session(KIND, Program(day_text("strict")))
        session.say("most 1")
        kept = self.state(session)
        for call in (session.text, session.done, lambda: session.say("show"), lambda: session.say("changes"),
                     lambda: session.say("kind"), lambda: session.say("faults"), lambda: session.say("answers 0"),
                     lambda: session.say_all(["show", "changes", "show", "changes"]), lambda: session.say_all([])):
            self.returns_new_lists(call)
            self.assertEqual(self.state(session), kept)

    def test_the_lists_that_are_passed_stay(self):
        session, lines = Session(KIND), ["most 1", "kind", "most 3"]
        session.say_all(lines)
        self.assertEqual(lines, ["most 1", "kind", "most 3"])
        lines.clear()
        self.assertEqual(session.done(), ["most 1", "most 3"])

    def test_sessions_do_not_share(self):
        one, other = Session(KIND, Program(TEN_HOURS)), Session(KIND, Program(TEN_HOURS))
        one.say("most 1")
        one.say("put 1 x = add now 1")
        self.check(other, KIND, Program(TEN_HOURS), [])
        self.refused_line(NothingToUndo, other, "undo")
        self.assertEqual(KIND, Kind([60], 5000))


if __name__ == "__main__":
    unittest.main()
