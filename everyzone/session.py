"""Sessions: a kind and a program, commands that change them, and questions about them."""

from everyzone.commands import lines_of, performed
from everyzone.errors import InvalidCommand, InvalidPart, NothingToUndo
from everyzone.kinds import need_kind
from everyzone.programs import need_program


class Session:
    """The present state, as everyzone.commands tells one, the states before the changes, and those taken back."""

    def __init__(self, kind, program=None):
        need_kind(kind)
        if program is not None:
            need_program(program)
        self.present = (kind, program, ())
        self.earlier = []
        self.later = []

    def kind(self):
        """The present kind."""
        return self.present[0]

    def program(self):
        """The present program, or None."""
        return self.present[1]

    def text(self):
        """The list of the lines of the present program."""
        return lines_of(self.present[1])

    def done(self):
        """The list of the lines of all commands that are in effect."""
        return list(self.present[2])

    def __len__(self):
        return len(self.present[2])

    def say(self, line):
        """Perform a command; the list of strings that it tells."""
        if is_step(line):
            self.step(line)
            return []
        state, told = performed(self.present, line)
        self.keep(state)
        return told

    def say_all(self, lines):
        """Perform a list of commands, whose changes are one change; the list of what they tell."""
        if not isinstance(lines, (list, tuple)):
            raise InvalidPart(lines)
        for item in lines:
            if is_step(item):
                raise InvalidCommand(item)
        state = self.present
        found = []
        for item in lines:
            state, told = performed(state, item)
            found.append(told)
        self.keep(state)
        return found

    def keep(self, state):
        """Go on with a state, which is a change if it has a line more."""
        if len(state[2]) > len(self):
            self.earlier.append(self.present)
            self.later = []
            self.present = state

    def step(self, word):
        """Take back a change, or perform it again."""
        source, target = (self.earlier, self.later) if word == "undo" else (self.later, self.earlier)
        if len(source) == 0:
            raise NothingToUndo()
        target.append(self.present)
        self.present = source.pop()


def is_step(value):
    """Whether a value is the command to take back a change, or to perform it again."""
    return isinstance(value, str) and value in ("undo", "redo")
