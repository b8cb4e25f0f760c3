"""Tables: what certifies that no schedule has less work."""

from mergebudget.kinds import check_loads, is_int
from mergebudget.optimum import least_rows, load_sums, works_by_root
from mergebudget.schedules import MOST_FLUSHES


def table(sizes, reads):
    """The bound table of the least works of all intervals."""
    check_loads(sizes, reads, MOST_FLUSHES)
    return least_rows(sizes, reads)


def shows_bound(sizes, reads, bound, value):
    """Whether a value of any kind is a bound table that shows this bound."""
    check_loads(sizes, reads, MOST_FLUSHES)
    return is_int(bound) and is_bound_table(value, sizes, reads) and value[0][-1] == bound


def is_bound_table(value, sizes, reads):
    """Whether a value of any kind is a bound table, whatever the loads are."""
    n = len(sizes)
    if not has_shape(value, n) or not all([is_int(bound) for row in value for bound in row]):
        return False
    sums = load_sums(sizes, reads)
    return all([is_low(value, value, value, sums, start, stop) for start, stop in intervals(n)])


def has_shape(value, n):
    """Whether a value of any kind is a tuple of n + 1 tuples, from n + 1 parts down to one."""
    if not isinstance(value, tuple) or len(value) != n + 1:
        return False
    return all([isinstance(row, tuple) and len(row) == n + 1 - start for start, row in enumerate(value)])


def intervals(n):
    """All intervals of `n` flushes, with the empty ones."""
    return [(start, stop) for start in range(n + 1) for stop in range(start, n + 1)]


def is_low(rows, lefts, rights, sums, start, stop):
    """Whether the bound of an interval is as low as each of its roots requires."""
    bound = rows[start][stop - start]
    if start == stop:
        return bound <= 0
    return all([bound <= most for most, root in works_by_root(lefts, rights, sums, start, stop)])
