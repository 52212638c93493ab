"""Where values stand: stays in registers, saved values in cells, and what moves ask for.

`early` is a dict from the indices of the gone gaps of a value to how many ticks ahead of its point
each reload writes; `late` is how many ticks behind the first point the save starts. `told` is a dict
from items to what is told of them: False for kept, at once, in time; True for gone, late, early.
"""

from loopfoundry.covers.boards import sorted_dict


def stays_of(key, ticks, early, late):
    """A dict from the keys of the stays of a value with these points to their lives."""
    rows, firsts = {}, [0, *sorted(early)]
    for first, end in zip(firsts, [*firsts[1:], len(ticks)]):
        last = max(ticks[end - 1], ticks[0] + late) if first == 0 else ticks[end - 1]
        rows[f"{key}:{first}"] = (ticks[first] - early.get(first, 0), last + 1)
    return rows


def area_of(points, key, gap, early, late):
    """The life of a saved value up to the reload of its last gone gap, an index; None if that is too early."""
    ticks = points[key]
    begin = ticks[0] + late + points.save[0]
    start = ticks[gap] - early - points.reload[0]
    return (begin, start + 1) if start >= begin else None


def with_told(told, item, worth):
    """What is told, and one item more."""
    more = {part: told[part] for part in told}
    more[item] = worth
    return more


def told_gone(points, told, key):
    """The ascending indices of the gaps of a value that are told gone."""
    return [place for text, place in points.gaps if text == key and told.get(("gap", key, place), False)]


def sure_stays_of(points, told, key):
    """A dict from the keys of the sure stays of a value to their lives."""
    early = {
        place: 1 if told.get(("reload", key, place), False) else 0
        for text, place in points.gaps if text == key and told.get(("gap", key, place), True)
    }
    return stays_of(key, points[key], early, 1 if told.get(("save", key), False) else 0)


def sure_area_of(points, told, key):
    """The life of a value in the sure area, or None."""
    gone = told_gone(points, told, key)
    if not gone:
        return None
    early = 1 if told.get(("reload", key, gone[-1]), True) else 0
    return area_of(points, key, gone[-1], early, 1 if told.get(("save", key), True) else 0)


def sure_stays(points, told):
    """The dict of the sure stays."""
    rows = {}
    for key in points:
        rows.update(sure_stays_of(points, told, key))
    return sorted_dict(rows)


def sure_area(points, told):
    """The dict of the sure area."""
    rows = {key: sure_area_of(points, told, key) for key in points}
    return {key: life for key, life in rows.items() if life is not None}


def start_of(points, item, is_late):
    """The start of the move of an item: late or early, or at once or in time."""
    if item[0] == "save":
        return points[item[1]][0] + (1 if is_late else 0)
    return points[item[1]][item[2]] - points.reload[0] - (1 if is_late else 0)


def asks_of(points, item, start):
    """The pairs (unit, slot) that the move of an item asks for."""
    table = points.save if item[0] == "save" else points.reload
    return [(unit, (start + offset) % points.interval) for unit, offset in table[1]]
