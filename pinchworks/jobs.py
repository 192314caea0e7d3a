"""Jobs: streams that flow from one minute to another, minute by minute and with a store."""

from pinchworks.bodies import bodies_of, heating_of, outside_with
from pinchworks.checks import check_gap, is_row, is_stream, is_within
from pinchworks.errors import BadJobs
from pinchworks.storing import most_lacking

MOST_JOBS = 6
MOST_MINUTES = 50


def minutes(jobs, gap):
    """Return the pairs (heating, cooling) of all minutes, each one by itself."""
    return tuple([outside_with(heating_of(bodies), bodies) for bodies in checked_rows(jobs, gap)])


def busiest(jobs, gap):
    """Return the first minute with the greatest heating, and that heating."""
    heatings = [heating for heating, _ in minutes(jobs, gap)]
    greatest = max(heatings)
    return (heatings.index(greatest), greatest)


def idle(jobs, gap):
    """Return the minutes that need neither heating nor cooling."""
    return tuple([minute for minute, pair in enumerate(minutes(jobs, gap)) if pair == (0, 0)])


def with_store(jobs, gap):
    """Return the pair (sum of all heatings, sum of all coolings) if heat may be kept for later minutes."""
    rows = checked_rows(jobs, gap)
    heating, _ = most_lacking(rows, False)
    return outside_with(heating, [body for bodies in rows for body in bodies])


def is_job(value):
    if not is_row(value, 3, 3) or not is_stream(value[0]):
        return False
    _, begin, end = value
    return is_within(begin, 0, MOST_MINUTES) and is_within(end, 0, MOST_MINUTES) and begin < end


def check_jobs(jobs):
    if not is_row(jobs, 1, MOST_JOBS):
        raise BadJobs(None)
    for index, job in enumerate(jobs):
        if not is_job(job):
            raise BadJobs(index)


def checked_rows(jobs, gap):
    """Return a list with the bodies that flow in each minute."""
    check_jobs(jobs)
    check_gap(gap)
    rows = []
    for minute in range(max([end for _, _, end in jobs])):
        streams = [stream for stream, begin, end in jobs if begin <= minute < end]
        rows.append(bodies_of((streams, (), gap)))
    return rows
