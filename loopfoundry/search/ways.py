"""Ways and bars: a cover with a plan for an interval and a cost, or a tree of cases that bars both."""

from loopfoundry.covers.boards import cost_of, is_full, sorted_dict
from loopfoundry.jobs.jobs import Job
from loopfoundry.plans.plans import is_planned, raised
from loopfoundry.search.fields import Field
from loopfoundry.search.judging import is_bar
from loopfoundry.search.limits import check_asked, check_sizes
from loopfoundry.search.solving import search


def way_paper(body, machine, interval, *, most=None):
    """A cover of at most this cost with a plan, or a tree that bars it."""
    check_asked(body, machine, interval, most)
    check_sizes(body, machine)
    return paper_by(Field(body, machine, interval), body, machine, most)


def paper_by(field, body, machine, most):
    """The paper that a search in a field finds."""
    way, tree, _ = search(field, most)
    if way is None:
        return ("bar", tree)
    told, slots = way
    job = Job(body, machine, told)
    least = {text: slots.get(text, 0) for text in job.operations}
    return ("way", sorted_dict(told), raised(job.arcs, field.turn, least, slots))


def has_way(body, machine, interval, *, most=None):
    """Whether there is a cover of at most this cost with a plan."""
    check_asked(body, machine, interval, most)
    check_sizes(body, machine)
    return search(Field(body, machine, interval), most)[0] is not None


def is_way_paper(body, machine, interval, value, *, most=None):
    """Whether the value is such a paper."""
    check_asked(body, machine, interval, most)
    if not isinstance(value, tuple) or len(value) < 2:
        return False
    field = Field(body, machine, interval)
    if value[0] == "bar":
        return len(value) == 2 and is_bar(field, most, value[1])
    if value[0] != "way" or len(value) != 3:
        return False
    cost = way_cost(field, body, machine, value[1:])
    return cost is not None and (most is None or cost <= most)


def way_cost(field, body, machine, way):
    """The cost of a cover with a plan; None if these are none."""
    cover, starts = way
    if not is_full(body, field.fit_rows, cover) or not is_planned(Job(body, machine, cover), field.turn, starts):
        return None
    return cost_of(field.fit_rows, cover)
