"""What a search for reliefs asks again and again of points, each answer found once."""

from loopfoundry.few.stays import sure_area_of, sure_stays_of
from loopfoundry.files.circles import parts_of_file
from loopfoundry.files.lives import alive_counts


class Board:
    """The sure stays and the sure area of points by what is told, and how many of them are alive."""

    def __init__(self, points):
        self.told_points = points
        self.turn = points.interval
        self.movable = sorted(set([gap[0] for gap in points.gaps]))
        self._states = {
            key: [("save", key)] + [item for text, place in points.gaps if text == key for item in items_at(key, place)]
            for key in self.movable
        }
        fixed = [key for key in points if key not in self.movable]
        self._fixed = [rows_with_counts(sure_stays_of(points, {}, key), self.turn) for key in fixed]
        self._found = {}
        self._parts = {}

    def stays_at(self, told, key):
        """The pair of the sure stays of a value and of how many of them are alive in each slot."""
        state = (key, *[told.get(item, None) for item in self._states[key]])
        if state not in self._found:
            self._found[state] = rows_with_counts(sure_stays_of(self.told_points, told, key), self.turn)
        return self._found[state]

    def all_stays(self, told):
        """These pairs of all values."""
        return self._fixed + [self.stays_at(told, key) for key in self.movable]

    def stay_counts(self, told):
        """How many values are alive in each slot by the sure stays."""
        rows = [counts for _, counts in self.all_stays(told)]
        return [sum([row[slot] for row in rows]) for slot in range(self.turn)]

    def stay_parts(self, told):
        """The keys of the sure stays in parts that are apart from one another."""
        rows = {}
        for stays, _ in self.all_stays(told):
            rows.update(stays)
        state = tuple([rows[key] + (key,) for key in sorted(rows)])
        if state not in self._parts:
            self._parts[state] = parts_of_file(rows, self.turn)
        return self._parts[state]

    def area_rows(self, told):
        """The sure area."""
        rows = {key: sure_area_of(self.told_points, told, key) for key in self.movable}
        return {key: life for key, life in rows.items() if life is not None}


def items_at(key, place):
    """The items of a gap that say of the stays of its value."""
    return [("gap", key, place), ("reload", key, place)]


def rows_with_counts(rows, interval):
    """The pair of some lives and of how many of their values are alive in each slot."""
    return (rows, alive_counts(list(rows.values()), interval))
