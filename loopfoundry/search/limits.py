"""What the functions of the search take, and up to which size."""

from loopfoundry.base.numbers import check_number
from loopfoundry.covers.boards import check_world, choices_of, counts_of, has_all, product_of, roots_of, sum_of
from loopfoundry.covers.boards import unpriced
from loopfoundry.errors import TooMany
from loopfoundry.jobs.starts import check_interval

MAX_SEARCHED = 8
MAX_COVERS = 200
MAX_ASKING = 4


def check_most(most):
    """Raise InvalidNumber unless this is a greatest cost, or None."""
    if most is not None:
        check_number(most, 0, None)


def check_asked(body, machine, interval, most):
    """Raise an error unless these are a body, a machine, an interval and a greatest cost."""
    check_world(body, machine)
    check_interval(interval)
    check_most(most)


def check_sizes(body, machine):
    """Raise TooMany if the body is too great for a search."""
    if len(body.operations) > MAX_SEARCHED:
        raise TooMany(MAX_SEARCHED)
    choices, roots = choices_of(body, machine), roots_of(body)
    if product_of(counts_of(unpriced(choices)), roots).get(0, 0) > MAX_COVERS:
        raise TooMany(MAX_COVERS)
    asking = asking_most(choices, machine)
    if has_all(asking, roots) and sum_of(asking, roots) > MAX_ASKING:
        raise TooMany(MAX_ASKING)


def asking_most(choices, machine):
    """For each coverable node the most operations with units that a cover can have from there on."""
    asking = {}
    for node in sorted(choices, reverse=True):
        rows = [row for row in choices[node] if has_all(asking, row[2])]
        if rows:
            counts = [sum_of(asking, row[2]) + (1 if machine.pattern(row[0])[4] else 0) for row in rows]
            asking[node] = max(counts)
    return asking
