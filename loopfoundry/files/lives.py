"""Lives of values: in which ticks they are alive, and how many are so at once."""

from loopfoundry.base.numbers import MAX_INTERVAL, check_integer, check_known, check_number, is_integer
from loopfoundry.errors import InvalidArgument, InvalidLives, UnknownName
from loopfoundry.jobs.starts import check_timed, do_fit

MAX_KEYS = 48
MAX_SIGNS = 30
SIGNS = "abcdefghijklmnopqrstuvwxyz0123456789.:"


def is_key(value):
    """Whether the value is a key: a string of one to thirty signs."""
    if not isinstance(value, str) or not 1 <= len(value) <= MAX_SIGNS:
        return False
    return all([sign in SIGNS for sign in value])


def is_life(value):
    """Whether the value is a pair (begin, end) of ticks."""
    if not isinstance(value, tuple) or len(value) != 2 or not all([is_integer(tick) for tick in value]):
        return False
    return value[0] < value[1]


def is_rows(value):
    """Whether the value is a dict from keys to lives."""
    if not isinstance(value, dict) or len(value) > MAX_KEYS:
        return False
    return all([is_key(key) and is_life(life) for key, life in value.items()])


def count_alive(life, interval, tick):
    """How many values of a life are alive in a tick."""
    begin, end = life
    return (tick - begin) // interval + (end - 1 - tick) // interval + 1


def count_across(life, interval, moment):
    """How many values of a life are alive on both sides of a moment."""
    begin, end = life
    return (moment - 1 - begin) // interval + (end - 1 - moment) // interval + 1


def all_across(rows, interval, moment):
    """How many values of some lives are alive on both sides of a moment."""
    return sum([count_across(life, interval, moment) for life in rows])


def full_moments(rows, interval):
    """The moments, one for each slot, at which as many values of some lives are across as are ever alive at once."""
    most = most_alive(rows, interval)
    return [moment for moment in range(interval) if all_across(rows, interval, moment) == most]


def alive_counts(rows, interval):
    """How many values of some lives are alive in each slot."""
    always = sum([(end - begin) // interval for begin, end in rows])
    counts = [always for _ in range(interval)]
    for begin, end in rows:
        for step in range((end - begin) % interval):
            slot = (begin + step) % interval
            counts[slot] = counts[slot] + 1
    return counts


def most_alive(rows, interval):
    """The greatest number of values of some lives that are alive in one tick."""
    return max(alive_counts(rows, interval))


class Lives:
    """For each key when the values of a round are alive; in each further round so many ticks later."""

    def __init__(self, interval, rows):
        check_number(interval, 1, MAX_INTERVAL)
        if not is_rows(rows):
            raise InvalidLives("no lives")
        self._interval = interval
        self._rows = {key: rows[key] for key in sorted(rows)}
        self._names = tuple(self._rows)
        self._most = most_alive(list(self._rows.values()), interval)
        self._total = sum([end - begin for begin, end in self._rows.values()])

    @property
    def interval(self):
        return self._interval

    @property
    def rows(self):
        return dict(self._rows)

    @property
    def names(self):
        """The ascending keys."""
        return self._names

    @property
    def most(self):
        """The greatest number of values that are alive in one tick."""
        return self._most

    @property
    def total(self):
        """The sum of the lengths."""
        return self._total

    def alive(self, tick, *names):
        """How many values are alive in a tick; with names only those of these keys."""
        check_integer(tick)
        return sum([count_alive(life, self._interval, tick) for life in self._counted(names)])

    def across(self, moment, *names):
        """How many values are across a moment; with names only those of these keys."""
        check_integer(moment)
        return all_across(self._counted(names), self._interval, moment)

    def is_full(self, moment, *names):
        """Whether these keys are full at a moment; without names, whether all are."""
        check_integer(moment)
        rows = self._counted(names)
        return all_across(rows, self._interval, moment) == most_alive(rows, self._interval)

    def most_of(self, *names):
        """The greatest number of values of these keys that are alive in one tick."""
        return most_alive(self._lives_of(names), self._interval)

    def is_apart(self, *names):
        """Whether these keys are apart."""
        some = self._lives_of(names)
        others = [self._rows[key] for key in self._names if key not in names]
        if not some or not others:
            return False
        full, others_full = full_moments(some, self._interval), full_moments(others, self._interval)
        return all([moment in full or moment in others_full for moment in range(self._interval)])

    def each_alive(self, tick):
        """The ascending pairs (key, round) of the values that are alive in a tick."""
        check_integer(tick)
        for key in self._names:
            begin, end = self._rows[key]
            number = -((end - 1 - tick) // self._interval)
            while begin + self._interval * number <= tick:
                yield (key, number)
                number += 1

    def __add__(self, other):
        if not is_integer(other):
            raise InvalidArgument("no integer")
        rows = {key: (begin + other, end + other) for key, (begin, end) in self._rows.items()}
        if not is_rows(rows):
            raise InvalidArgument("a tick gets more than thirty digits")
        return Lives(self._interval, rows)

    def __or__(self, other):
        if not isinstance(other, Lives) or self._interval != other._interval:
            raise InvalidArgument("no lives with an equal interval")
        if any([key in other._rows for key in self._names]) or len(self._names) + len(other._names) > MAX_KEYS:
            raise InvalidArgument("a common key, or too many keys")
        return Lives(self._interval, {**self._rows, **other._rows})

    def __and__(self, other):
        if not isinstance(other, tuple) or list(other) != [key for key in self._names if key in other]:
            raise InvalidArgument("no ascending tuple of keys")
        return Lives(self._interval, {key: self._rows[key] for key in other})

    def turned(self):
        """The lives with time turned round."""
        return Lives(self._interval, {key: (-end, -begin) for key, (begin, end) in self._rows.items()})

    def __getitem__(self, at):
        if not isinstance(at, str) or at not in self._rows:
            raise UnknownName(at)
        return self._rows[at]

    def __contains__(self, x):
        return isinstance(x, str) and x in self._rows

    def __len__(self):
        return len(self._names)

    def __iter__(self):
        return iter(self._names)

    def __eq__(self, other):
        return isinstance(other, Lives) and self._interval == other._interval and self._rows == other._rows

    def __str__(self):
        return f"lives of {len(self._names)} keys, interval {self._interval}"

    def _lives_of(self, names):
        """The lives of these keys, each once."""
        for key in names:
            check_known(key, self._names)
        return [self._rows[key] for key in self._names if key in names]

    def _counted(self, names):
        """The lives of these keys, or all lives without names."""
        return self._lives_of(names) if names else list(self._rows.values())


def lives_of(job, interval, starts):
    """The lives of the values of a job."""
    check_timed(job, interval, starts)
    if not do_fit(job, interval, starts):
        raise InvalidArgument("the starts do not fit")
    written = {text: starts[text] + job.ticks(text) for text in job.valued}
    reads = read_ticks(job, interval, starts)
    return Lives(interval, {text: (written[text], max([written[text], *reads[text]]) + 1) for text in job.valued})


def read_ticks(job, interval, starts):
    """A dict from the operations that are no stores to the ticks in which their values of round 0 are read."""
    return {
        text: [
            starts[reader] + interval * distance
            for reader in job.operations for source, distance in job.operands(reader) if source == text
        ]
        for text in job.valued
    }
