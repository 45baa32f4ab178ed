"""Integers, names and times, and the days and times of readings."""

from everyzone.errors import InvalidInteger, InvalidText, InvalidTime

DAY_LENGTH = 1440
HOUR_LENGTH = 60
DAY_HOURS = 24
LONGEST_NAME = 8
LETTERS = "abcdefghijklmnopqrstuvwxyz"
DIGITS = "0123456789"


def is_whole(value):
    """Whether a value is an integer of any size; True and False are none."""
    return isinstance(value, int) and not isinstance(value, bool)


def is_whole_pair(value):
    """Whether a value is a tuple, or a list, of two integers."""
    return isinstance(value, (list, tuple)) and len(value) == 2 and is_whole(value[0]) and is_whole(value[1])


def is_integer(value, low, high):
    """Whether a value is an integer from low to high."""
    return is_whole(value) and low <= value <= high


def is_name(value):
    """Whether a value is a name: a letter, and up to seven letters and digits behind it."""
    if not isinstance(value, str) or not 1 <= len(value) <= LONGEST_NAME:
        return False
    return value[0] in LETTERS and all([sign in LETTERS or sign in DIGITS for sign in value])


def is_time(value):
    """Whether a value is the time of a reading."""
    return is_integer(value, 0, DAY_LENGTH - 1)


def is_time_text(value):
    """Whether a value is a string HH:MM that tells a time."""
    if not isinstance(value, str) or len(value) != 5 or value[2] != ":":
        return False
    # The digits are looked at one by one, because int also takes signs, blanks and digits of other scripts.
    if not all([sign in DIGITS for sign in value[:2] + value[3:]]):
        return False
    return int(value[:2]) < DAY_HOURS and int(value[3:]) < HOUR_LENGTH


def is_number_text(text, digits):
    """Whether a string is an integer of at most so many digits, without a plus sign and without needless zeros."""
    bare = text.removeprefix("-")
    # The length is looked at first, because int refuses strings of very many digits.
    if not 1 <= len(bare) <= digits or not all([sign in DIGITS for sign in bare]):
        return False
    return bare[0] != "0" or text == "0"


def need_integer(value):
    """Refuse a value that is not an integer."""
    if not is_whole(value):
        raise InvalidInteger(value)


def need_time(value):
    """Refuse a value that is not a time."""
    if not is_time(value):
        raise InvalidTime(value)


def day_of(reading):
    """The day of a reading."""
    need_integer(reading)
    return reading // DAY_LENGTH


def time_of(reading):
    """The time of a reading."""
    need_integer(reading)
    return reading % DAY_LENGTH


def reading_of(day, time):
    """The reading with a day and a time."""
    need_integer(day)
    need_time(time)
    return day * DAY_LENGTH + time


def time_text(time):
    """A time as a string HH:MM."""
    need_time(time)
    hours = time // HOUR_LENGTH
    minutes = time % HOUR_LENGTH
    return f"{hours:02d}:{minutes:02d}"


def time_from(text):
    """The time with a string HH:MM."""
    if not is_time_text(text):
        raise InvalidText(text)
    return int(text[:2]) * HOUR_LENGTH + int(text[3:])
