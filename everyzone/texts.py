"""Kinds, zones and cases as strings."""

from everyzone.cases import FAILS, need_case
from everyzone.errors import InvalidText
from everyzone.kinds import Kind, need_kind
from everyzone.regions import ORDER
from everyzone.words import is_number_text
from everyzone.zones import Zone, need_zone

MOST_DIGITS = 30


def kind_text(kind):
    """A kind as a string."""
    need_kind(kind)
    jumps = words_with("jumps", kind.jumps)
    return f"{jumps}; apart {kind.apart}; most {kind.most}"


def kind_of_text(text):
    """The kind with a text."""
    need_text(text)
    parts = text.split("; ")
    if len(parts) != 3:
        raise InvalidText(text)
    jumps = numbers_behind(text, parts[0], "jumps")
    apart = numbers_behind(text, parts[1], "apart")
    most = numbers_behind(text, parts[2], "most")
    if len(jumps) < 1 or len(apart) != 1 or len(most) != 1:
        raise InvalidText(text)
    return Kind(jumps, apart[0], most[0])


def zone_text(zone):
    """A zone as a string of lines."""
    need_zone(zone)
    return "\n".join([f"first {zone.first}"] + [words_with("change", change) for change in zone.changes()])


def zone_of_text(text):
    """The zone with a text."""
    need_text(text)
    lines = text.split("\n")
    first = numbers_behind(text, lines[0], "first")
    changes = [tuple(numbers_behind(text, line, "change")) for line in lines[1:]]
    if len(first) != 1 or not all([len(change) == 2 for change in changes]):
        raise InvalidText(text)
    return Zone(first[0], changes)


def need_text(value):
    """Refuse a value that is not a string."""
    if not isinstance(value, str):
        raise InvalidText(value)


def words_with(word, numbers):
    """A word and numbers behind it, as a string."""
    return " ".join([word] + [str(number) for number in numbers])


def numbers_behind(text, part, word):
    """The list of the numbers behind a word in a part of a text, which is refused if the part has another form."""
    words = part.split(" ")
    if words[0] != word or not all([is_number_text(found, MOST_DIGITS) for found in words[1:]]):
        raise InvalidText(text)
    return [int(found) for found in words[1:]]


def case_text(case):
    """A case as a string, without its example."""
    need_case(case)
    jumps, bounds, answers, example = case
    parts = [f"{name} jumps {jumps[name]}" for name in ORDER if name in jumps]
    parts.extend([f"{x} - {y} <= {n}" for x, y, n in bounds])
    if answers[0] == FAILS:
        parts.append(f"fails {answers[1]}")
    else:
        parts.append(" ".join(["answers"] + [answer_text(answer) for answer in answers]))
    return "; ".join(parts)


def answer_text(answer):
    """An answer of a case as a string."""
    if isinstance(answer, bool):
        return truth_text(answer)
    sign, n = answer
    if sign == 0:
        return str(n)
    return f"time{n:+d}" if sign == 1 else f"-time{n:+d}"


def truth_text(truth):
    """A truth as a string."""
    return "true" if truth else "false"
