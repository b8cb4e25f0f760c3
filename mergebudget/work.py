"""Work: what a schedule costs, by the sizes of its flushes and the reads behind them."""

from mergebudget.kinds import check_reads, check_sizes
from mergebudget.schedules import run_counts, writes


def write_work(schedule, sizes):
    """The sum of the sizes, each as often as its flush is written."""
    counts = writes(schedule)
    check_sizes(sizes, len(counts), len(counts))
    return weighted(sizes, counts)


def weighted(loads, counts):
    """The sum of the loads, each times its count."""
    return sum([load * count for load, count in zip(loads, counts)])


def read_work(schedule, reads):
    """The sum of the reads, each as often as there are runs directly before it."""
    counts = run_counts(schedule)
    check_reads(reads, len(counts))
    return weighted(reads, counts)


def work(schedule, sizes, reads):
    """The write work and the read work together."""
    return write_work(schedule, sizes) + read_work(schedule, reads)
