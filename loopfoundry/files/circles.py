"""The order of lives around a file that turns.

A life with its base covers as many neighbouring places on a circle as it has ticks, and behind it
comes a gap, up to where the life begins that follows in its register. So the keys form circles, one
or several. At each moment the gaps that it lies in can exchange what comes behind them, which joins
two circles at no cost; one circle alone is a file.

All is told here in half ticks: moments are even, and the middle of a tick is odd.
"""

from loopfoundry.files.lives import alive_counts

# A register more than are busy in the middle of some tick: nothing stands in it there.
IDLE = ""


def joined_circles(lives, idle):
    """The fewest circles of the keys, as lists of keys, with one register more if `idle` is not 0.

    There are several only without it, and then the keys of each one are apart from all others.
    """
    if len(lives) == 0:
        return []
    spans, turn = short_spans(lives), 2 * lives.interval
    busiest = busiest_middle(spans, turn)
    following = first_following(spans, turn, busiest)
    if idle > 0:
        spans[IDLE] = (busiest, busiest)
        following[IDLE] = IDLE
    joined = True
    while joined:
        joined = join_once(spans, following, turn)
    return [[key for key in circle if key != IDLE] for circle in circles_of(following)]


def short_spans(lives):
    """The keys with lives of the same slots, and of 1 to T ticks: T ticks less need one register less."""
    rows, interval = {}, lives.interval
    for key, (begin, end) in lives.rows.items():
        slot = begin % interval
        rows[key] = (2 * slot, 2 * (slot + (end - begin - 1) % interval + 1))
    return rows


def busiest_middle(spans, turn):
    """The middle of a tick in which most values are alive: no register is free there."""
    counts = [
        len([key for key, (begin, end) in spans.items() if (middle - begin) % turn < end - begin])
        for middle in range(1, turn, 2)
    ]
    return 2 * counts.index(max(counts)) + 1


def first_following(spans, turn, busiest):
    """For each key one that follows in its register: the first one that begins when it is free."""
    following, left = {}, []
    for step in range(1, turn, 2):
        moment = (busiest + step) % turn
        left.extend([key for key, (_, end) in spans.items() if end % turn == moment])
        for key in [text for text, (begin, _) in spans.items() if begin == moment]:
            following[left.pop()] = key
    return following


def circles_of(following):
    """The circles of the keys."""
    circles, seen = [], {}
    for first in following:
        circle, key = [], first
        while key not in seen:
            seen[key] = True
            circle.append(key)
            key = following[key]
        if circle:
            circles.append(circle)
    return circles


def is_in_gap(spans, following, turn, key, moment):
    """Whether a moment lies in the gap behind a key, its ends included."""
    if key == IDLE and following[key] == IDLE:
        return True
    end, begin = spans[key][1], spans[following[key]][0]
    return (moment - end) % turn <= (begin - end) % turn


def join_once(spans, following, turn):
    """Join two circles whose gaps meet in a moment, if there are such; return whether there were."""
    circles = circles_of(following)
    homes = {key: place for place, circle in enumerate(circles) for key in circle}
    for moment in range(0, turn, 2):
        near = [key for key in spans if is_in_gap(spans, following, turn, key, moment)]
        for key in near[1:]:
            if homes[key] != homes[near[0]]:
                following[key], following[near[0]] = following[near[0]], following[key]
                return True
    return False


def order_on_circle(circles):
    """The keys in the order of their only circle, if there is one."""
    return circles[0] if circles else []


def parts_of_file(rows, interval):
    """The keys of lives in parts that are apart from one another, in a file of as many registers as their most.

    Walk the moments from the busiest tick on, in which no register is free: what ends or begins at a
    moment, and what has ended and is not followed yet, is one part.
    """
    if not rows:
        return []
    counts, moments = alive_counts(list(rows.values()), interval), {}
    busiest = counts.index(max(counts))
    for key, (begin, end) in rows.items():
        moments.setdefault((begin - busiest - 1) % interval, []).append((key, 1))
        moments.setdefault((end - busiest - 1) % interval, []).append((key, -1))
    parts, homes = {key: [key] for key in rows}, {key: key for key in rows}
    waiting, free = None, 0
    for moment in sorted(moments):
        near = [key for key, _ in moments[moment]] + ([] if waiting is None else [waiting])
        for key in near:
            unite(parts, homes, key, near[0])
        free -= sum([change for _, change in moments[moment]])
        waiting = near[0] if free > 0 else None
    return list(parts.values())


def unite(parts, homes, one, other):
    """Make one part of those of two keys."""
    old, new = homes[one], homes[other]
    if old != new:
        moved = parts.pop(old)
        parts[new].extend(moved)
        for key in moved:
            homes[key] = new
