"""What the tests of wide bodies share: arcs by walking rounds, all simple rings, and ratios by force."""

from fractions import Fraction


def copy_text(job, text, copies, k):
    """The text of an operation in a copy, by the letters of the document."""
    if copies == 1:
        return text
    letters, (name, point, rest) = "abcdefghijklmnopqrstuvwx", text.partition(".")
    return letters[job.body.names.index(name)] + letters[k] + point + rest


def walked_arcs(job, copies, first, limit=70):
    """The wide arcs, by all pairs of rounds from the first one up to a limit of rounds."""
    rows, body = set(), job.body
    for target in job.operations:
        for source, distance in job.operands(target):
            for j in range(10 * copies, 11 * copies):
                i = j - distance
                one, two = copy_text(job, source, copies, i % copies), copy_text(job, target, copies, j % copies)
                rows.add((one, two, job.ticks(source), j // copies - i // copies))
        for load in job.loaded(target):
            _, array, step, offset = next(row for row in body.loads if row[0] == load)
            for store, stored, other_step, other_offset in body.stores:
                if stored == array:
                    ahead = body.names.index(store) < body.names.index(load.split(".")[0])
                    places = (other_step, other_offset, step, offset)
                    rows |= walked_memory(job, (store, target), places, ahead, (copies, first, limit))
    return tuple(sorted(row for row in rows if row[0] != row[1] or row[3] != 0))


def walked_memory(job, texts, places, ahead, sizes):
    """The arcs of a store and a load, from all of their meetings in these rounds."""
    (store, target), (a, b, c, e), (copies, first, limit) = texts, places, sizes
    least = {}
    for j in range(limit):
        rest = c * (first + j) + e - b
        if rest % a == 0 and 0 <= rest // a - first < limit:
            i = rest // a - first
            one, two = copy_text(job, store, copies, i % copies), copy_text(job, target, copies, j % copies)
            apart = j // copies - i // copies
            if j > i or (j == i and ahead):
                row = (one, two, job.ticks(store))
            else:
                row, apart = (two, one, 1 - job.ticks(store)), -apart
            least[row] = min(apart, least.get(row, apart))
    return {(*row, distance) for row, distance in least.items()}


def all_rings(arcs):
    """All rings of different operations, each once."""
    following = {}
    for source, target, _, _ in arcs:
        following.setdefault(source, set()).add(target)
    rings = []

    def go(path):
        for text in sorted(following.get(path[-1], ())):
            if text == path[0]:
                rings.append(tuple(path))
            elif text > path[0] and text not in path:
                go([*path, text])

    for text in sorted(following):
        go([text])
    return rings


def asked(arcs, ring, p, q):
    """What a ring asks for."""
    pairs = zip(ring, ring[1:] + ring[:1])
    return sum(max(delay * q - p * gap for s, t, delay, gap in arcs if (s, t) == pair) for pair in pairs)


def forced_ratio(arcs):
    """The ratio of some arcs, by all rings and all choices of their arcs."""
    best = Fraction(0)
    for ring in all_rings(arcs):
        sums = {(0, 0)}
        for pair in zip(ring, ring[1:] + ring[:1]):
            sums = {(x + arc[2], y + arc[3]) for x, y in sums for arc in arcs if arc[:2] == pair}
        best = max([best, *[Fraction(x, y) for x, y in sums if x > 0]])
    return best


def do_fit(arcs, interval, starts):
    return all(starts[t] - starts[s] >= delay - interval * gap for s, t, delay, gap in arcs)
