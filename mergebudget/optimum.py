"""The optimum: the least work of all schedules, and the least root of each interval of flushes.

Rows of works hold the work of the interval [start, stop) in row `start` at stop - start.
"""

from mergebudget.kinds import check_loads
from mergebudget.schedules import MOST_FLUSHES, runs_at_end


def least_work(sizes, reads):
    """The least work of all schedules, and the schedule in whose tree each node is a least root."""
    check_loads(sizes, reads, MOST_FLUSHES)
    return least_of(sizes, reads)


def least_of(sizes, reads):
    """The least work and its schedule, whatever the loads are."""
    rows = least_rows(sizes, reads)
    return (rows[0][-1], schedule_in(rows, load_sums(sizes, reads), 0, len(sizes)))


def least_rows(sizes, reads):
    """The rows of the least works of all intervals, whatever the loads are."""
    n = len(sizes)
    sums = load_sums(sizes, reads)
    rows = [[0] for start in range(n + 1)]
    # An interval needs its beginnings, which stand in its own row, and its ends, which stand below.
    for start in reversed(range(n)):
        for stop in range(start + 1, n + 1):
            rows[start].append(min(works_by_root(rows, rows, sums, start, stop))[0])
    return tuple([tuple(row) for row in rows])


def load_sums(sizes, reads):
    """The sums of the first sizes and of the first reads, which the cost of a root is made of."""
    return (running_sums(sizes), running_sums(reads))


def running_sums(loads):
    """The sum of the first loads, for each number of them from 0 on."""
    sums = [0]
    for load in loads:
        sums.append(sums[-1] + load)
    return sums


def works_by_root(lefts, rights, sums, start, stop):
    """For each root of an interval, if both of its subtrees have a work: the work with it, and the root."""
    found = []
    for root in range(start, stop):
        left = lefts[start][root - start]
        right = rights[root + 1][stop - root - 1]
        if left is not None and right is not None:
            found.append((left + right + root_cost(sums, start, stop, root), root))
    return found


def root_cost(sums, start, stop, root):
    """The sizes of the interval up to its root, and its reads from the root on."""
    sizes, reads = sums
    return sizes[root + 1] - sizes[start] + reads[stop] - reads[root]


def schedule_in(rows, sums, start, stop):
    """The schedule of an interval in whose tree each node is a least root."""
    if start == stop:
        return ()
    root = least_root(rows, rows, sums, start, stop)
    return joined(schedule_in(rows, sums, start, root), schedule_in(rows, sums, root + 1, stop))


def least_root(lefts, rights, sums, start, stop):
    """The smallest root of the least work, from the least works of the subtrees."""
    return min(works_by_root(lefts, rights, sums, start, stop))[1]


def joined(left, right):
    """The schedule of a tree, from the schedules of its left and of its right subtree."""
    # The root writes the oldest run, so it merges all runs that its left subtree leaves.
    return left + (runs_at_end(left),) + right


def least_roots(sizes, reads):
    """In row i the least roots of the intervals [i, i + 1), [i, i + 2) and so on."""
    check_loads(sizes, reads, MOST_FLUSHES)
    n = len(sizes)
    rows = least_rows(sizes, reads)
    sums = load_sums(sizes, reads)
    return tuple([
        tuple([least_root(rows, rows, sums, start, stop) for stop in range(start + 1, n + 1)]) for start in range(n)
    ])
