"""Schedules: what each flush merges, and the runs and counts that follow from it."""

from mergebudget.errors import InvalidCount, InvalidSchedule
from mergebudget.kinds import is_count_up_to

MOST_FLUSHES = 60
MOST_LISTED_FLUSHES = 8


def is_schedule(value):
    """Whether a value of any kind is a schedule of at most 60 flushes."""
    if not isinstance(value, tuple) or len(value) > MOST_FLUSHES:
        return False
    runs = 0
    for merge in value:
        if not is_count_up_to(merge, runs):
            return False
        runs = runs - merge + 1
    return True


def stacks(schedule):
    """The stack directly after each flush."""
    if not is_schedule(schedule):
        raise InvalidSchedule(schedule)
    stack = ()
    result = []
    for flush, merge in enumerate(schedule):
        stack = stack_after(stack, flush, merge)
        result.append(stack)
    return tuple(result)


def stack_after(stack, flush, merge):
    """The stack after a flush that merges the newest `merge` runs."""
    kept = len(stack) - merge
    start = stack[kept][0] if merge > 0 else flush
    return stack[:kept] + ((start, flush + 1),)


def writes(schedule):
    """How often the data of each flush are written."""
    history = stacks(schedule)
    counts = [0] * len(history)
    for stack in history:
        # The newest run is the one that this flush wrote, with all the data in it.
        start, stop = stack[-1]
        for flush in range(start, stop):
            counts[flush] += 1
    return tuple(counts)


def run_counts(schedule):
    """The number of runs directly after each flush."""
    return tuple([len(stack) for stack in stacks(schedule)])


def all_schedules(n):
    """All schedules of `n` flushes, ascending."""
    if not is_count_up_to(n, MOST_LISTED_FLUSHES):
        raise InvalidCount(n)
    found = [()]
    while len(found[0]) < n:
        found = [shorter + (merge,) for shorter in found for merge in range(runs_at_end(shorter) + 1)]
    return tuple(found)


def runs_at_end(schedule):
    """The number of runs after the last flush."""
    # Each flush adds one run and removes those that it merges.
    return len(schedule) - sum(schedule)
