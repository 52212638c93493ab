"""The points of the values of a job."""

from loopfoundry.errors import InvalidArgument, TooMany
from loopfoundry.few.points import MAX_POINTS, Points
from loopfoundry.files.lives import read_ticks
from loopfoundry.jobs.starts import check_timed
from loopfoundry.plans.plans import is_planned, left_by


def ticks_of_values(job, interval, starts):
    """A dict from the values of a job to the ascending ticks in which they are written or read."""
    reads = read_ticks(job, interval, starts)
    return {text: tuple(sorted(set([starts[text] + job.ticks(text), *reads[text]]))) for text in job.valued}


def points_of(job, interval, starts):
    """The points of the values of a job, with the tables of its machine, and the units that a plan leaves."""
    check_timed(job, interval, starts)
    if not is_planned(job, interval, starts):
        raise InvalidArgument("the starts are no plan")
    rows = ticks_of_values(job, interval, starts)
    if sum([len(ticks) for ticks in rows.values()]) > MAX_POINTS:
        raise TooMany(MAX_POINTS)
    machine = job.machine
    return Points(interval, rows, save=machine.save, reload=machine.reload, spare=left_by(job, interval, starts))
