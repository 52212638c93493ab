"""Files of registers that turn, bases of lives in them, and papers for how many they need."""

from loopfoundry.base.numbers import check_integer, check_number, is_between
from loopfoundry.errors import InvalidArgument, InvalidLives
from loopfoundry.files.circles import joined_circles, order_on_circle
from loopfoundry.files.lives import Lives

MAX_FILE = 24


def check_file(lives, registers):
    """Raise an error unless these are lives and a number of registers."""
    if not isinstance(lives, Lives):
        raise InvalidLives("no lives")
    check_number(registers, 0, MAX_FILE)


def is_bases(lives, registers, value):
    """Whether the value is a dict from the keys to bases for so many registers."""
    check_file(lives, registers)
    return are_bases(lives, registers, value)


def are_bases(lives, registers, value):
    """Whether the value is bases of lives for so many registers."""
    if not isinstance(value, dict) or len(value) != len(lives):
        return False
    if not all([key in value and is_between(value[key], 0, registers - 1) for key in lives.names]):
        return False
    around, spans = registers * lives.interval, []
    for key, (begin, end) in lives.rows.items():
        spans.append(((begin - lives.interval * value[key]) % around, end - begin))
    spans = sorted(spans)
    # Each span ends before the one behind it begins, the last one before the first one comes round again.
    behind = [place for place, _ in spans[1:]] + [place + around for place, _ in spans[:1]]
    return all([place + many <= then for (place, many), then in zip(spans, behind)])


def file_paper(lives, registers):
    """A paper that shows bases for so many registers, or that there are none."""
    check_file(lives, registers)
    if lives.most > registers:
        slots = [slot for slot in range(lives.interval) if lives.alive(slot) > registers]
        return ("alive", slots[0])
    circles = joined_circles(lives, registers - lives.most)
    if len(circles) > 1:
        return ("apart", tuple(sorted(circles[0])))
    return ("bases", bases_by(lives, registers, order_on_circle(circles)))


def bases_by(lives, registers, order):
    """The bases of lives that follow one another in this order, each as near as it can be."""
    bases, place = {}, None
    for key in order:
        begin, end = lives[key]
        place = begin if place is None else place + (begin - place) % lives.interval
        bases[key] = (begin - place) // lives.interval % registers
        place += end - begin
    return {key: bases[key] for key in lives.names}


def is_file_paper(lives, registers, value):
    """Whether the value is such a paper."""
    check_file(lives, registers)
    if not isinstance(value, tuple) or len(value) != 2:
        return False
    kind, told = value
    if kind == "bases":
        return are_bases(lives, registers, told)
    if kind == "alive":
        return is_between(told, 0, lives.interval - 1) and lives.alive(told) > registers
    if kind != "apart" or lives.most != registers or not isinstance(told, tuple):
        return False
    return list(told) == [key for key in lives.names if key in told] and lives.is_apart(*told)


def least_registers(lives):
    """The least number of registers that have bases."""
    if not isinstance(lives, Lives):
        raise InvalidLives("no lives")
    return lives.most + (1 if len(joined_circles(lives, 0)) > 1 else 0)


def held(lives, registers, bases, tick):
    """What the registers hold in a tick: a pair (key, round) or None for each."""
    check_file(lives, registers)
    if not are_bases(lives, registers, bases):
        raise InvalidArgument("no bases for so many registers")
    check_integer(tick)
    rows = {(bases[key] + number) % registers: (key, number) for key, number in lives.each_alive(tick)}
    return tuple([rows.get(place, None) for place in range(registers)])
