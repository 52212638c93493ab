"""Rings of arcs, and what they ask for with a pair (p, q)."""

from math import gcd


def weights_of(arcs, ratio):
    """A dict from the pairs of neighbours to the greatest number that an arc between them asks for."""
    weights = {}
    for source, target, delay, distance in arcs:
        asking = delay * ratio[1] - ratio[0] * distance
        if (source, target) not in weights or asking > weights[(source, target)]:
            weights[(source, target)] = asking
    return weights


def ring_or_heights(operations, arcs, ratio):
    """A ring that asks for more than 0, and None; or None, and the least heights from 0 on that all arcs leave."""
    weights, heights, before = weights_of(arcs, ratio), {text: 0 for text in operations}, {}
    for _ in operations:
        raised = []
        for source, target in weights:
            wanted = heights[source] + weights[(source, target)]
            if wanted > heights[target]:
                heights[target] = wanted
                before[target] = source
                raised.append(target)
        if not raised:
            return (None, heights)
    return (ring_behind(before, raised[0]), None)


def ring_behind(before, text):
    """The ring that a row of operations leads back to, each one raised by the one before it."""
    seen, ring = {}, []
    while text not in seen:
        seen[text] = True
        text = before[text]
    first = text
    while not ring or text != first:
        ring.append(text)
        text = before[text]
    return tuple(reversed(list(ring)))


def is_ring(arcs, value):
    """Whether the value is a ring of some arcs."""
    if not isinstance(value, tuple) or len(value) == 0 or not all([isinstance(text, str) for text in value]):
        return False
    if len(set(value)) != len(value):
        return False
    linked = {arc[:2]: True for arc in arcs}
    return all([pair in linked for pair in neighbours(value)])


def neighbours(ring):
    """The pairs of neighbours of a ring."""
    return list(zip(ring, ring[1:] + ring[:1]))


def asked_by_ring(arcs, ring, ratio):
    """What a ring asks for."""
    weights = weights_of(arcs, ratio)
    return sum([weights[pair] for pair in neighbours(ring)])


def is_gaining_ring(arcs, ratio, value):
    """Whether the value is a ring that asks for more than 0."""
    return is_ring(arcs, value) and asked_by_ring(arcs, value, ratio) > 0


def ratio_and_ring(operations, arcs):
    """The ratio of some arcs, and a ring that asks for just 0 with it, or None for the ratio 0."""
    ratio, critical = (0, 1), None
    ring, _ = ring_or_heights(operations, arcs, ratio)
    while ring is not None:
        ratio, critical = ratio_of_ring(arcs, ring, ratio), ring
        ring, _ = ring_or_heights(operations, arcs, ratio)
    return (ratio, critical)


def ratio_of_ring(arcs, ring, ratio):
    """The ratio with which a ring, by those of its arcs that ask for most with a lesser one, asks for just 0."""
    strongest, pairs = {}, neighbours(ring)
    for source, target, delay, distance in arcs:
        asking = delay * ratio[1] - ratio[0] * distance
        if (source, target) not in strongest or asking > strongest[(source, target)][0]:
            strongest[(source, target)] = (asking, delay, distance)
    delay = sum([strongest[pair][1] for pair in pairs])
    distance = sum([strongest[pair][2] for pair in pairs])
    return (delay // gcd(delay, distance), distance // gcd(delay, distance))
