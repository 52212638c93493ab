"""Names, integers, and the slots of ticks."""

from loopfoundry.errors import InvalidNumber, UnknownName

MAX_INTERVAL = 32
MAX_TICKS = 4
MAX_LETTERS = 8
LONG = 10 ** 30
LETTERS = "abcdefghijklmnopqrstuvwxyz"


def is_name(value):
    """Whether the value is a string of one to eight letters a to z."""
    if not isinstance(value, str) or not 1 <= len(value) <= MAX_LETTERS:
        return False
    return all([letter in LETTERS for letter in value])


def is_whole(value):
    """Whether the value is an integer of any size; True and False are none."""
    return isinstance(value, int) and not isinstance(value, bool)


def is_integer(value):
    """Whether the value is an integer of at most thirty digits."""
    return is_whole(value) and -LONG < value < LONG


def is_between(value, least, most):
    """Whether the value is an integer from `least` to `most`; None for `most` is no bound."""
    return is_integer(value) and least <= value and (most is None or value <= most)


def check_number(value, least, most):
    """Raise InvalidNumber unless the value is an integer from `least` to `most`."""
    if not is_between(value, least, most):
        raise InvalidNumber(value)


def check_integer(value):
    """Raise InvalidNumber unless the value is an integer of at most thirty digits."""
    if not is_integer(value):
        raise InvalidNumber(value)


def check_known(name, known):
    """Raise UnknownName unless the name is one of the known ones."""
    if name not in known:
        raise UnknownName(name)


def slot_of(tick, interval):
    """The slot of a tick."""
    check_integer(tick)
    check_number(interval, 1, MAX_INTERVAL)
    return tick % interval


def rounded_up(number, slot, interval):
    """The least integer from `number` on whose slot is that of the integer `slot`."""
    check_integer(number)
    check_integer(slot)
    check_number(interval, 1, MAX_INTERVAL)
    return number + (slot - number) % interval
