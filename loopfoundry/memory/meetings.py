"""Pairs of rounds in which two places of one array meet."""

from loopfoundry.base.numbers import is_integer, is_whole
from loopfoundry.errors import InvalidArgument, InvalidNumber

MAX_COPIES = 24
WIDE = 10 ** 50 * 10 ** 50


def is_place(value):
    """Whether the value is a place: a pair of integers."""
    return is_pair(value) and is_integer(value[0]) and is_integer(value[1])


def cell_of(place, number):
    """The cell of a place in the round with this number, which can be below 0."""
    if not is_place(place):
        raise InvalidArgument("no place")
    if not is_integer(number):
        raise InvalidNumber(number)
    return place[0] * number + place[1]


def is_pair(value):
    """Whether the value is a tuple of two integers of any size."""
    return isinstance(value, tuple) and len(value) == 2 and is_whole(value[0]) and is_whole(value[1])


def is_wide(value):
    """Whether the value is an integer that meetings take."""
    return is_whole(value) and -WIDE < value < WIDE


def is_wide_place(value):
    """Whether the value is a place that meetings take."""
    return is_pair(value) and is_wide(value[0]) and is_wide(value[1])


def check_counter(value):
    """Raise InvalidNumber unless the value is an integer from 0 on that meetings take."""
    if not is_wide(value) or value < 0:
        raise InvalidNumber(value)


def check_bounds(low, high, first, rounds):
    """Raise InvalidNumber with the first of these that is no such bound."""
    check_counter(low)
    if high is not None and not is_wide(high):
        raise InvalidNumber(high)
    check_counter(first)
    if rounds is not None:
        check_counter(rounds)


def divisor_of(one, other):
    """The greatest common divisor g of two integers, not both 0, with x and y: one * x + other * y is g."""
    old, new = (one, 1, 0), (other, 0, 1)
    while new[0] != 0:
        times = old[0] // new[0]
        old, new = new, tuple([before - times * now for before, now in zip(old, new)])
    return old if old[0] > 0 else tuple([-part for part in old])


def line_of(place, other):
    """A pair of the line and the step to the pair after it, or None if the places never meet."""
    divisor, left, right = divisor_of(place[0], other[0])
    apart = other[1] - place[1]
    if apart % divisor != 0:
        return None
    times = apart // divisor
    return ((left * times, -right * times), (other[0] // divisor, place[0] // divisor))


def after(pair, step, times):
    """The pair of the line that is so many pairs after another one."""
    return (pair[0] + step[0] * times, pair[1] + step[1] * times)


def slacks(pair, bounds):
    """For each bound by how much a pair keeps it: below 0 where it fails."""
    earlier, later = pair
    low, high, first, rounds = bounds
    kept = [earlier - first, later - earlier - low]
    if high is not None:
        kept.append(high - later + earlier)
    if rounds is not None:
        kept.append(rounds - 1 - later)
    return kept


def limits_of(line, bounds):
    """How far after the pair of the line the pairs that keep each bound lie.

    Two lists: from where on, and up to where. A bound that holds nowhere gives None.
    """
    here, then = slacks(line[0], bounds), slacks(after(line[0], line[1], 1), bounds)
    starts, ends = [], []
    for slack, next_slack in zip(here, then):
        growth = next_slack - slack
        if growth > 0:
            starts.append(-(slack // growth))
        elif growth < 0:
            ends.append(slack // -growth)
        elif slack < 0:
            return None
    return (starts, ends)


def span_of(limits):
    """How far after the pair of the line the first and the last pair within all limits lie.

    None stands for no such pair, and in the place of an end for a row without end.
    """
    if limits is None:
        return None
    start, end = max(limits[0], default=None), min(limits[1], default=None)
    if start is not None and end is not None and start > end:
        return None
    return (start, end)


def goes_up(slopes):
    """Whether the first of the slopes that is not 0 is above 0."""
    return [slope for slope in slopes if slope != 0][0] > 0


def least_by(line, span, slopes):
    """The pair of the span that is the least one by numbers that grow with these slopes, if there is one."""
    end = span[0] if goes_up(slopes) else span[1]
    return None if end is None else after(line[0], line[1], end)


def keeps_all(pair, bounds):
    """Whether all bounds hold for a pair."""
    return min(slacks(pair, bounds)) >= 0


def empty_paper(place, other, line, limits):
    """The paper that shows that there are no pairs."""
    if line is None:
        return ("modulus", divisor_of(place[0], other[0])[0])
    # A bound that holds nowhere fails on both sides of every pair.
    gap = 0 if limits is None else max(limits[0]) - 1
    return ("gap", *after(line[0], line[1], gap))


class Meetings:
    """The pairs of rounds in which an earlier and a later place meet, within bounds."""

    def __init__(self, place, other, *, low=0, high=None, first=0, rounds=None):
        if not is_wide_place(place) or not is_wide_place(other):
            raise InvalidArgument("no place")
        check_bounds(low, high, first, rounds)
        if place[0] == 0 and other[0] == 0:
            raise InvalidArgument("both steps are 0")
        self._places = (place, other)
        self._bounds = (low, high, first, rounds)
        self._line = line_of(place, other)
        self._nearest = self._soonest = self._latest = None
        limits = None if self._line is None else limits_of(self._line, self._bounds)
        self._span = span_of(limits)
        if self._span is None:
            self._amount = 0
            self._paper = empty_paper(place, other, self._line, limits)
        else:
            self._find_ends()
            self._paper = ("nearest", *self._nearest)

    def _find_ends(self):
        """Set what is told of the pairs, of which there is one."""
        line, span = self._line, self._span
        earlier, later = line[1]
        self._nearest = least_by(line, span, (later - earlier, later))
        self._soonest = least_by(line, span, (later, -earlier))
        self._latest = least_by(line, span, (-earlier, later))
        self._amount = None if span[0] is None or span[1] is None else span[1] - span[0] + 1

    @property
    def place(self):
        return self._places[0]

    @property
    def other(self):
        return self._places[1]

    @property
    def low(self):
        return self._bounds[0]

    @property
    def high(self):
        return self._bounds[1]

    @property
    def first(self):
        return self._bounds[2]

    @property
    def rounds(self):
        return self._bounds[3]

    @property
    def nearest(self):
        """The pair of the least distance, of several the one with the least later round."""
        return self._nearest

    @property
    def distance(self):
        """The least distance."""
        return None if self._nearest is None else self._nearest[1] - self._nearest[0]

    @property
    def soonest(self):
        """The pair with the least later round, of several the one with the greatest earlier round."""
        return self._soonest

    @property
    def latest(self):
        """The pair with the greatest earlier round, of several the one with the least later round."""
        return self._latest

    @property
    def amount(self):
        """How many pairs there are; None if they have no end."""
        return self._amount

    @property
    def paper(self):
        """A paper that shows the nearest pair, or that there is none."""
        return self._paper

    def __contains__(self, x):
        if not is_pair(x):
            return False
        (step, offset), (other_step, other_offset) = self._places
        return step * x[0] + offset == other_step * x[1] + other_offset and keeps_all(x, self._bounds)

    def __bool__(self):
        return self._nearest is not None

    def __eq__(self, other):
        return isinstance(other, Meetings) and self._places == other._places and self._bounds == other._bounds

    def __str__(self):
        return f"meetings of {self._places[0]} and {self._places[1]}"

    def each(self):
        """The pairs, ascending by later round, then by earlier round."""
        if self._span is None:
            return
        pair, step = self._line
        start, end = self._span
        if not goes_up((step[1], step[0])):
            # The line goes down: take it from its other end.
            step = (-step[0], -step[1])
            start, end = -end, None if start is None else -start
        at = start
        while end is None or at <= end:
            yield after(pair, step, at)
            at += 1

    def peeled(self, by):
        """The meetings of what is left behind so many rounds."""
        check_counter(by)
        low, high, first, rounds = self._bounds
        moved = [(step, offset + step * by) for step, offset in self._places]
        left = None if rounds is None else max(0, rounds - by)
        return Meetings(moved[0], moved[1], low=low, high=high, first=max(0, first - by), rounds=left)

    def unrolled(self, copies, one, two):
        """The meetings of copy `one` and copy `two` of rounds that do so many rounds in one."""
        if not is_wide(copies) or not 1 <= copies <= MAX_COPIES:
            raise InvalidNumber(copies)
        for copy in (one, two):
            if not is_wide(copy) or not 0 <= copy < copies:
                raise InvalidNumber(copy)
        (step, offset), (other_step, other_offset) = self._places
        low, high, first, rounds = self._bounds
        return Meetings(
            (copies * step, offset + step * one),
            (copies * other_step, other_offset + other_step * two),
            low=-((two - one - low) // copies),
            high=None if high is None else (high + one - two) // copies,
            first=max(0, -((one - first) // copies)),
            rounds=None if rounds is None else max(0, -((two - rounds) // copies)),
        )


def is_modulus(value, place, other):
    """Whether the value divides both steps, but not the difference of the offsets."""
    if not is_whole(value) or value < 2 or place[0] % value != 0 or other[0] % value != 0:
        return False
    return (other[1] - place[1]) % value != 0


def is_gap(pair, meetings):
    """Whether from this pair of the line backwards one bound fails throughout, and behind it another one."""
    place, other = meetings.place, meetings.other
    if not is_pair(pair) or place[0] * pair[0] + place[1] != other[0] * pair[1] + other[1]:
        return False
    divisor, _, _ = divisor_of(place[0], other[0])
    step = (other[0] // divisor, place[0] // divisor)
    bounds = (meetings.low, meetings.high, meetings.first, meetings.rounds)
    here, then = slacks(pair, bounds), slacks(after(pair, step, 1), bounds)
    # A bound that fails at a pair fails also where it is kept by even less.
    before = any([slack < 0 and slack <= next_slack for slack, next_slack in zip(here, then)])
    behind = any([next_slack < 0 and next_slack <= slack for slack, next_slack in zip(here, then)])
    return before and behind


def is_meetings_paper(meetings, value):
    """Whether the value is a paper of the meetings."""
    if not isinstance(meetings, Meetings):
        raise InvalidArgument("no meetings")
    if not isinstance(value, tuple) or len(value) < 2:
        return False
    if value[0] == "nearest":
        return is_pair(value[1:]) and value[1:] == meetings.nearest
    if value[0] == "modulus":
        return len(value) == 2 and is_modulus(value[1], meetings.place, meetings.other)
    return value[0] == "gap" and is_gap(value[1:], meetings)
