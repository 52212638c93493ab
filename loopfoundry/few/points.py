"""Points of values: the ticks in which they must be in a register, and the gaps between them."""

from loopfoundry.base.numbers import MAX_INTERVAL, check_known, check_number, is_between, is_integer, is_name
from loopfoundry.errors import InvalidArgument, InvalidLives, UnknownName
from loopfoundry.machine.machines import MAX_COPIES, is_move

MAX_VALUES = 24
MAX_POINTS = 48
MAX_SIGNS = 20
SIGNS = "abcdefghijklmnopqrstuvwxyz0123456789."
# A stay ends behind its last point: this tick has at most thirty digits, too.
LAST_TICK = 10 ** 30 - 2


def is_value_key(value):
    """Whether the value is a string of one to twenty signs."""
    if not isinstance(value, str) or not 1 <= len(value) <= MAX_SIGNS:
        return False
    return all([sign in SIGNS for sign in value])


def is_points(value):
    """Whether the value is an ascending tuple of one or more ticks."""
    if not isinstance(value, tuple) or len(value) == 0:
        return False
    if not all([is_integer(tick) and tick <= LAST_TICK for tick in value]):
        return False
    return all([one < other for one, other in zip(value, value[1:])])


def is_point_rows(value):
    """Whether the value is a dict from keys to points, with not too many of both."""
    if not isinstance(value, dict) or len(value) > MAX_VALUES:
        return False
    if not all([is_value_key(key) and is_points(value[key]) for key in value]):
        return False
    return sum([len(ticks) for ticks in value.values()]) <= MAX_POINTS


def is_spare(value, interval):
    """Whether the value is a dict from pairs of a unit and a slot to how often it is spare there."""
    if not isinstance(value, dict):
        return False
    return all([is_unit_slot(at, interval) and is_between(many, 0, MAX_COPIES) for at, many in value.items()])


def is_unit_slot(value, interval):
    """Whether the value is a pair of a name and a slot."""
    if not isinstance(value, tuple) or len(value) != 2:
        return False
    return is_name(value[0]) and is_between(value[1], 0, interval - 1)


def gaps_of(rows, ticks):
    """The ascending gaps that can be gone, if a save and a reload have so many ticks together."""
    return tuple([
        (key, place) for key in rows for place, tick in enumerate(rows[key])
        if place > 0 and tick - rows[key][0] >= ticks
    ])


class Points:
    """The points of some values, the tables of their moves, and the units that moves can ask for."""

    def __init__(self, interval, rows, *, save=(1, ()), reload=(1, ()), spare=None):
        check_number(interval, 1, MAX_INTERVAL)
        if not is_point_rows(rows):
            raise InvalidLives("no points")
        if not is_move(save) or not is_move(reload):
            raise InvalidArgument("no table of a move")
        if spare is not None and not is_spare(spare, interval):
            raise InvalidArgument("no spare units")
        self._interval = interval
        self._rows = {key: rows[key] for key in sorted(rows)}
        self._names = tuple(self._rows)
        self._moves = (save, reload)
        self._spare = {} if spare is None else {at: spare[at] for at in sorted(spare)}
        self._gaps = gaps_of(self._rows, save[0] + reload[0])

    @property
    def interval(self):
        return self._interval

    @property
    def rows(self):
        return dict(self._rows)

    @property
    def save(self):
        return self._moves[0]

    @property
    def reload(self):
        return self._moves[1]

    @property
    def spare(self):
        return {at: self._spare[at] for at in self._spare}

    @property
    def gaps(self):
        """The ascending gaps that can be gone."""
        return self._gaps

    def without_last(self, key):
        """The points without the last one of a value."""
        check_known(key, self._names)
        if len(self._rows[key]) == 1:
            raise InvalidArgument("the only point")
        rows = {text: ticks[:-1] if text == key else ticks for text, ticks in self._rows.items()}
        return Points(self._interval, rows, save=self._moves[0], reload=self._moves[1], spare=self._spare)

    def __add__(self, other):
        if not is_integer(other):
            raise InvalidArgument("no integer")
        rows = {key: tuple([tick + other for tick in ticks]) for key, ticks in self._rows.items()}
        if not is_point_rows(rows):
            raise InvalidArgument("a tick is too great, or gets more than thirty digits")
        later = {(at[0], (at[1] + other) % self._interval): many for at, many in self._spare.items()}
        return Points(self._interval, rows, save=self._moves[0], reload=self._moves[1], spare=later)

    def __getitem__(self, at):
        if not isinstance(at, str) or at not in self._rows:
            raise UnknownName(at)
        return self._rows[at]

    def __contains__(self, x):
        return isinstance(x, str) and x in self._rows

    def __len__(self):
        return len(self._names)

    def __iter__(self):
        return iter(self._names)

    def __eq__(self, other):
        return (
            isinstance(other, Points)
            and self._interval == other._interval
            and self._rows == other._rows
            and self._moves == other._moves
            and self._spare == other._spare
        )

    def __str__(self):
        return f"points of {len(self._names)} values in {self._interval} ticks"
