"""Commands of sessions: their forms, the changes that they make, and the questions that they ask.

A state is a tuple of a kind, a program or None, and the tuple of the lines that have changed them.
"""

from everyzone.cases import cases
from everyzone.comparing import needless
from everyzone.errors import InvalidCommand, NoLine, NoProgram
from everyzone.faults import failing, faults
from everyzone.kinds import MOST_JUMPS, Kind
from everyzone.outcomes import values_of
from everyzone.programs import Program
from everyzone.running import run
from everyzone.texts import MOST_DIGITS, kind_text, truth_text
from everyzone.words import is_integer, is_number_text
from everyzone.zones import Zone

GREATEST_INDEX = 99
# What stands behind the first word of a command; a text and numbers take all words that are left.
FORMS = {
    "program": ("text",),
    "put": ("index", "text"),
    "take": ("index",),
    "replace": ("index", "text"),
    "jumps": ("numbers",),
    "apart": ("number",),
    "most": ("number",),
    "show": (),
    "kind": (),
    "changes": (),
    "cases": (),
    "answers": ("index",),
    "needless": (),
    "faults": (),
    "run": ("number", "number"),
}
LINE_CHANGES = ("put", "take", "replace")
PLAIN_QUESTIONS = ("show", "kind", "changes")


def performed(state, line):
    """The state behind a command, and what it returns."""
    word, given = command_of(line)
    kind, program, done = state
    if word in PLAIN_QUESTIONS:
        return state, plain_answer(word, state)
    if word in KIND_CHANGES:
        change = KIND_CHANGES[word]
        return (change(kind, given[0]), program, (*done, line)), []
    if word == "program":
        return (kind, Program(given[0].replace(" | ", "\n")), (*done, line)), []
    if program is None:
        raise NoProgram()
    if word in LINE_CHANGES:
        return (kind, program_changed(word, program, given), (*done, line)), []
    question = QUESTIONS[word]
    return state, question(program, kind, *given)


def command_of(line):
    """The first word of a command and what is given behind it; a line with another form is refused."""
    words = line.split(" ") if isinstance(line, str) and "\n" not in line else [""]
    if "" in words or words[0] not in FORMS:
        raise InvalidCommand(line)
    word = words[0]
    rest = words[1:]
    given = []
    for form in FORMS[word]:
        taken = rest if form in ("text", "numbers") else rest[:1]
        if not has_form(taken, form):
            raise InvalidCommand(line)
        given.append(value_given(taken, form))
        rest = rest[len(taken):]
    if rest:
        raise InvalidCommand(line)
    return word, given


def has_form(words, form):
    """Whether words have a form."""
    if form == "text":
        return len(words) > 0
    if not 1 <= len(words) <= MOST_JUMPS or not all([is_number_text(word, MOST_DIGITS) for word in words]):
        return False
    return form != "index" or is_integer(int(words[0]), 0, GREATEST_INDEX)


def value_given(words, form):
    """The value of words with a form."""
    if form == "text":
        return " ".join(words)
    if form == "numbers":
        return [int(word) for word in words]
    return int(words[0])


def with_jumps(kind, jumps):
    """A kind with other jumps."""
    return Kind(jumps, kind.apart, kind.most)


def with_apart(kind, apart):
    """A kind with another least time."""
    return Kind(kind.jumps, apart, kind.most)


def with_most(kind, most):
    """A kind with another greatest number of changes."""
    return Kind(kind.jumps, kind.apart, most)


def lines_of(program):
    """The lines of the text of a program, none if there is no program."""
    return [] if program is None else str(program).split("\n")


def program_changed(word, program, given):
    """A program with a line put into it, taken out of it or replaced."""
    lines = lines_of(program)
    index = given[0]
    if index > len(lines) or (index == len(lines) and word != "put"):
        raise NoLine(index)
    behind = index if word == "put" else index + 1
    return Program("\n".join([*lines[:index], *given[1:], *lines[behind:]]))


def plain_answer(word, state):
    """What is told about a state that may have no program."""
    kind, program, done = state
    if word == "show":
        return lines_of(program)
    return [kind_text(kind)] if word == "kind" else list(done)


def count_told(program, kind):
    """The number of the cases."""
    return [str(len(cases(program, kind)))]


def values_told(program, kind, index):
    """What an answer can be, and whether the program can fail."""
    found = [value_told(item) for item in values_of(program, kind, index)]
    return found if failing(program, kind) is None else [*found, "fails"]


def value_told(item):
    """A truth, an integer, or a tuple of two as a string."""
    if isinstance(item, bool):
        return truth_text(item)
    return f"{item[0]} {item[1]}" if isinstance(item, tuple) else str(item)


def needless_told(program, kind):
    """The lines that are needless."""
    return [value_told(index) for index in needless(program, kind)]


def faults_told(program, kind):
    """The gaps and folds that can be met."""
    return [value_told(fault) for fault in faults(program, kind)]


def run_told(program, kind, moment, offset):
    """The answers at a moment in the zone with an offset and without changes."""
    return [value_told(answer) for answer in run(program, Zone(offset), moment)]


KIND_CHANGES = {"jumps": with_jumps, "apart": with_apart, "most": with_most}
QUESTIONS = {
    "cases": count_told,
    "answers": values_told,
    "needless": needless_told,
    "faults": faults_told,
    "run": run_told,
}
