"""Starts of the operations of a job: which ones are such, and which ones fit."""

from loopfoundry.base.numbers import MAX_INTERVAL, check_number, is_between
from loopfoundry.errors import InvalidArgument, InvalidJob
from loopfoundry.jobs.jobs import Job

MAX_START = 10 ** 6


def check_job(job):
    """Raise InvalidJob unless this is a job."""
    if not isinstance(job, Job):
        raise InvalidJob("no job")


def check_interval(interval):
    """Raise InvalidNumber unless this is an interval."""
    check_number(interval, 1, MAX_INTERVAL)


def is_starts(job, value):
    """Whether the value is starts of the operations of a job."""
    if not isinstance(value, dict) or len(value) != len(job.operations):
        return False
    return all([text in value and is_between(value[text], 0, MAX_START) for text in job.operations])


def check_starts(job, starts):
    """Raise InvalidArgument unless these are starts of the job."""
    if not is_starts(job, starts):
        raise InvalidArgument("no starts of the job")


def check_timed(job, interval, starts):
    """Raise an error unless these are a job, an interval, and starts of the job."""
    check_job(job)
    check_interval(interval)
    check_starts(job, starts)


def is_kept(arc, interval, starts):
    """Whether starts fit an arc."""
    source, target, delay, distance = arc
    return starts[target] - starts[source] >= delay - interval * distance


def do_fit(job, interval, starts):
    """Whether starts fit all arcs of the job."""
    return all([is_kept(arc, interval, starts) for arc in job.arcs])
