"""The strongest rows of arcs between operations, and circuits that gain.

`far` is a dict from pairs of operations to pairs (weight, path): the greatest weight of a row of
arcs from the one to the other, and the operations on it without the last one.
"""


def joined(far, nodes, node, links):
    """The strongest rows with one operation more, and a circuit through it that gains: one of both is None.

    `links` has those between the new operation and each other one, in the form of `far`.
    """
    into, out = rows_into(far, nodes, node, links), rows_out(far, nodes, node, links)
    loops = [(out[at][0] + into[at][0], out[at][1] + into[at][1]) for at in nodes if at in into and at in out]
    if (node, node) in links:
        loops.append(links[(node, node)])
    gaining = [loop[1] for loop in loops if loop[0] > 0]
    if gaining:
        return (None, min(gaining, key=lambda path: len(path)))
    longer = {pair: far[pair] for pair in far}
    for at in into:
        longer[(at, node)] = into[at]
        for to in out:
            weight = into[at][0] + out[to][0]
            if at != to and ((at, to) not in far or weight > far[(at, to)][0]):
                longer[(at, to)] = (weight, into[at][1] + out[to][1])
    for to in out:
        longer[(node, to)] = out[to]
    return (longer, None)


def rows_into(far, nodes, node, links):
    """A dict from operations to the strongest row from there to the new operation."""
    rows, last = {}, [at for at in nodes if (at, node) in links]
    for start in nodes:
        best, through = None, None
        for at in last:
            if at == start or (start, at) in far:
                weight = links[(at, node)][0] + (0 if at == start else far[(start, at)][0])
                if best is None or weight > best:
                    best, through = weight, at
        if best is not None:
            head = () if through == start else far[(start, through)][1]
            rows[start] = (best, head + links[(through, node)][1])
    return rows


def rows_out(far, nodes, node, links):
    """A dict from operations to the strongest row from the new operation to there."""
    rows, following = {}, [at for at in nodes if (node, at) in links]
    for end in nodes:
        best, through = None, None
        for at in following:
            if at == end or (at, end) in far:
                weight = links[(node, at)][0] + (0 if at == end else far[(at, end)][0])
                if best is None or weight > best:
                    best, through = weight, at
        if best is not None:
            tail = () if through == end else far[(through, end)][1]
            rows[end] = (best, links[(node, through)][1] + tail)
    return rows
