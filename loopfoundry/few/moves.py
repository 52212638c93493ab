"""Moves: saves of values, and reloads for the points behind gaps."""

from loopfoundry.base.numbers import is_whole
from loopfoundry.covers.boards import sorted_dict
from loopfoundry.errors import InvalidArgument, InvalidLives
from loopfoundry.few.points import Points
from loopfoundry.few.stays import area_of, asks_of, stays_of


def check_points(points):
    """Raise InvalidLives unless these are points."""
    if not isinstance(points, Points):
        raise InvalidLives("no points")


def is_gap(points, value):
    """Whether the value is a gap that can be gone."""
    if not isinstance(value, tuple) or len(value) != 2:
        return False
    return isinstance(value[0], str) and is_whole(value[1]) and value in points.gaps


def is_moves(points, saves, reloads):
    """Whether these are saves and reloads for points."""
    if not isinstance(saves, dict) or not isinstance(reloads, dict):
        return False
    if not all([is_gap(points, gap) for gap in reloads]):
        return False
    wanted = sorted(set([gap[0] for gap in reloads]))
    if len(saves) != len(wanted) or not all([key in saves for key in wanted]):
        return False
    if not all([is_save_start(points, key, saves[key]) for key in wanted]):
        return False
    return all([is_reload_start(points, saves, gap, reloads[gap]) for gap in reloads])


def is_save_start(points, key, start):
    """Whether a save of a value can start then: at the first point, or one tick later."""
    return is_whole(start) and 0 <= start - points[key][0] <= 1


def is_reload_start(points, saves, gap, start):
    """Whether a reload can start then: for its point or one tick earlier, in any case behind the point before."""
    key, place = gap
    if not is_whole(start) or start < saves[key] + points.save[0]:
        return False
    writing = start + points.reload[0]
    return 0 <= points[key][place] - writing <= 1 and writing > points[key][place - 1]


def asked_by_moves(points, saves, reloads):
    """How often moves ask for each pair (unit, slot)."""
    counts = {}
    rows = [(("save", key), start) for key, start in saves.items()]
    rows += [(("reload", *gap), start) for gap, start in reloads.items()]
    for item, start in rows:
        for at in asks_of(points, item, start):
            counts[at] = counts.get(at, 0) + 1
    return sorted_dict(counts)


def early_reloads(points, reloads, key):
    """A dict from the indices of the gone gaps of a value to how many ticks early their reloads write."""
    ticks, room = points[key], points.reload[0]
    return {place: ticks[place] - start - room for (text, place), start in reloads.items() if text == key}


class Moves:
    """Saves and reloads of points, also ones that do not fit."""

    def __init__(self, points, saves, reloads):
        check_points(points)
        if not is_moves(points, saves, reloads):
            raise InvalidArgument("no moves for these points")
        self._points = points
        self._saves = sorted_dict(saves)
        self._reloads = sorted_dict(reloads)
        self._gone = tuple(self._reloads)
        self._all = (*self._saves, *self._gone)
        stays, area = {}, {}
        for key in points:
            early = early_reloads(points, reloads, key)
            late = saves[key] - points[key][0] if early else 0
            stays.update(stays_of(key, points[key], early, late))
            if early:
                area[key] = area_of(points, key, max(list(early)), early[max(list(early))], late)
        self._stays = sorted_dict(stays)
        self._area = area
        self._asked = asked_by_moves(points, saves, reloads)
        self._fits = all([many <= points.spare.get(at, 0) for at, many in self._asked.items()])

    @property
    def points(self):
        return self._points

    @property
    def saves(self):
        return dict(self._saves)

    @property
    def reloads(self):
        return {gap: self._reloads[gap] for gap in self._reloads}

    @property
    def gone(self):
        """The ascending gone gaps."""
        return self._gone

    @property
    def stays(self):
        """A dict from the keys of the stays to their lives."""
        return dict(self._stays)

    @property
    def area(self):
        """A dict from the saved values to their lives in the save area."""
        return dict(self._area)

    @property
    def asked(self):
        """How often the moves ask for each pair (unit, slot)."""
        return {at: self._asked[at] for at in self._asked}

    @property
    def fits(self):
        """Whether no unit is asked for more often than it is spare."""
        return self._fits

    def kept(self, key, j):
        """The moves with this gap kept, and without the save if it was the only one of its value."""
        if not is_gap(self._points, (key, j)) or (key, j) not in self._reloads:
            raise InvalidArgument("no gone gap")
        reloads = {gap: self._reloads[gap] for gap in self._reloads if gap != (key, j)}
        left = [gap[0] for gap in reloads]
        return Moves(self._points, {text: self._saves[text] for text in self._saves if text in left}, reloads)

    def __contains__(self, x):
        return is_gap(self._points, x) and x in self._reloads

    def __len__(self):
        return len(self._all)

    def __eq__(self, other):
        return (
            isinstance(other, Moves)
            and self._points == other._points
            and self._saves == other._saves
            and self._reloads == other._reloads
        )

    def __str__(self):
        return f"{len(self._all)} moves of {len(self._saves)} values"
