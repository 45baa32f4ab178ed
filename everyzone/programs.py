"""Programs: their texts, and what is known of them before they run."""

from everyzone.errors import InvalidLine, InvalidText, NotProgram, UnknownName
from everyzone.words import DAY_LENGTH, is_name, is_number_text, is_time_text, time_from
from everyzone.zones import is_rule

MOST_LINES = 8
MOST_ANSWERS = 4
MOST_MINUTES = 100000
MOST_DAYS = 60
ANSWER_KINDS = ("number", "truth")

# The kinds that the value of the first name behind each word may have.
TAKES = {
    "read": ("moment",),
    "place": ("reading",),
    "add": ("moment", "reading"),
    "days": ("reading",),
    "at": ("reading",),
    "time": ("reading",),
    "day": ("reading",),
    "between": ("moment", "reading"),
    "before": ("moment", "reading"),
}
# The kind of the value that a word gives; a word that is not here gives the kind that it takes.
GIVES = {
    "read": "reading",
    "place": "moment",
    "time": "number",
    "day": "number",
    "between": "number",
    "before": "truth",
}
# The words with one name and nothing behind it.
SINGLE = ("read", "time", "day")


class Program:
    """A text, and what it tells.

    A step is a line between the first and the last one: the name that it binds, its word, the first name behind the
    word, and what stands behind that: a rule, an integer, a time, a second name, or None if nothing does.
    """

    def __init__(self, text):
        if not isinstance(text, str):
            raise InvalidText(text)
        rows = [line.split(" ") for line in text.split("\n")]
        self.source = text
        self.earliest, self.latest = start_times(rows[0])
        self.kinds = {"now": "moment"}
        self.steps = []
        for index, words in enumerate(step_rows(rows), start=1):
            step = step_of(words, self.kinds)
            if step is None or index > MOST_LINES:
                raise InvalidLine(index)
            self.steps.append(step)
            self.kinds[step[0]] = kind_given(step, self.kinds)
        self.results = answer_names(rows, len(self.steps) + 1, self.kinds)

    @property
    def low(self):
        """The least time of the reading at the start."""
        return self.earliest

    @property
    def high(self):
        """The greatest time of the reading at the start."""
        return self.latest

    def lines(self):
        """The lines between the first and the last one, as lists of words."""
        return [line.split(" ") for line in self.source.split("\n")[1:-1]]

    def answers(self):
        """The list of the names of the answers."""
        return list(self.results)

    def __len__(self):
        return len(self.steps)

    def __contains__(self, x):
        return isinstance(x, str) and x in self.kinds

    def __eq__(self, other):
        return isinstance(other, Program) and self.source == other.source

    def __str__(self):
        return str(self.source)

    def kind_of(self, name):
        """The kind of the value of a name."""
        if name not in self:
            raise UnknownName(name)
        return self.kinds[name]

    def reach(self):
        """How far the program can go, in minutes."""
        return sum([reach_of(step) for step in self.steps])


def start_times(words):
    """The least and the greatest time that the first line tells."""
    if len(words) != 3 or words[0] != "start" or not is_time_text(words[1]) or not is_time_text(words[2]):
        raise InvalidLine(0)
    low, high = time_from(words[1]), time_from(words[2])
    if low > high:
        raise InvalidLine(0)
    return low, high


def step_rows(rows):
    """The rows behind the first one, up to the first row `return`, or all of them if there is none."""
    found = []
    for words in rows[1:]:
        if words[0] == "return":
            return found
        found.append(words)
    return found


def step_of(words, kinds):
    """The step of a line, or None if the line is wrong behind lines that bind names of these kinds."""
    if len(words) < 4 or not is_free(words[0], kinds) or words[1] != "=":
        return None
    word, x = words[2], words[3]
    if word not in TAKES or kinds.get(x) not in TAKES[word]:
        return None
    if word in SINGLE:
        return (words[0], word, x, None) if len(words) == 4 else None
    more = part_behind(word, kinds[x], words[4], kinds) if len(words) == 5 else None
    return None if more is None else (words[0], word, x, more)


def is_free(name, kinds):
    """Whether a line may bind a name."""
    # `now` is among the kinds from the start, and a line with `return` as its name is taken for the last one.
    return is_name(name) and name not in kinds


def part_behind(word, kind, text, kinds):
    """What a text tells behind a word and a name with a value of a kind, or None if it does not fit there."""
    if word == "place":
        return text if is_rule(text) else None
    if word == "add":
        return number_of(text, MOST_MINUTES)
    if word == "days":
        return number_of(text, MOST_DAYS)
    if word == "at":
        return time_from(text) if is_time_text(text) else None
    return text if kinds.get(text) == kind else None


def number_of(text, most):
    """The integer that a text tells, or None if it tells none, or one whose absolute value is greater than most."""
    if not is_number_text(text, len(str(most))):
        return None
    number = int(text)
    return number if abs(number) <= most else None


def kind_given(step, kinds):
    """The kind of the value that a step gives, by the kinds of the names ahead of it."""
    return GIVES.get(step[1], kinds[step[2]])


def answer_names(rows, index, kinds):
    """The names in the last line, which has to be the row with this index."""
    if index == len(rows) or not is_answer_row(rows[index], kinds):
        raise InvalidLine(index)
    if index + 1 < len(rows):
        raise InvalidLine(index + 1)
    return rows[index][1:]


def is_answer_row(words, kinds):
    """Whether the words behind `return` are names of answers."""
    names = words[1:]
    return 1 <= len(names) <= MOST_ANSWERS and all([kinds.get(name) in ANSWER_KINDS for name in names])


def reach_of(step):
    """How far a step can go, in minutes."""
    word, more = step[1], step[3]
    if word == "add":
        return abs(more)
    if word == "days":
        return abs(more) * DAY_LENGTH
    if word == "at":
        return DAY_LENGTH
    return 0


def need_program(value):
    """Refuse a value that is not a program."""
    if not isinstance(value, Program):
        raise NotProgram(value)
