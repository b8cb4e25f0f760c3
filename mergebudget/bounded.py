"""Bounded: the least work of all schedules within budgets, and tables that certify it."""

from mergebudget.kinds import check_budgets, check_loads, is_int
from mergebudget.optimum import joined, least_root, load_sums, works_by_root
from mergebudget.states import lifetime
from mergebudget.tables import has_shape, intervals, is_low

MOST_BOUNDED_FLUSHES = 14
MOST_BOUNDED_BUDGET = 8


def least_work_within(sizes, reads, k, c):
    """The least work within the budgets with its schedule of least roots, or None if there is no schedule."""
    check_arguments(sizes, reads, k, c)
    tables = least_tables(sizes, reads, k, c)
    least = tables[k][c][0][-1]
    if least is None:
        return None
    return (least, schedule_in(tables, load_sums(sizes, reads), k, c, 0, len(sizes)))


def check_arguments(sizes, reads, k, c):
    """Raises an error unless loads and budgets are within the limits of this module."""
    check_loads(sizes, reads, MOST_BOUNDED_FLUSHES)
    check_budgets(k, c, MOST_BOUNDED_BUDGET)


def least_tables(sizes, reads, k, c):
    """At [b][a] the least works of all intervals within (b, a), None where there is no tree."""
    n = len(sizes)
    sums = load_sums(sizes, reads)
    tables = []
    for b in range(k + 1):
        tables.append([])
        for a in range(c + 1):
            if b == 0 or a == 0:
                tables[b].append(rows_without_trees(n))
            else:
                tables[b].append(rows_over(tables[b][a - 1], tables[b - 1][a], sums, n))
    return tuple([tuple(row) for row in tables])


def rows_without_trees(n):
    """The rows for budgets that allow no flush."""
    return tuple([(0,) + (None,) * (n - start) for start in range(n + 1)])


def rows_over(lefts, rights, sums, n):
    """The rows of least works, from those of the left and of the right subtrees."""
    rows = []
    for start in range(n + 1):
        row = [0]
        for stop in range(start + 1, n + 1):
            least, root = min(works_by_root(lefts, rights, sums, start, stop), default=(None, None))
            row.append(least)
        rows.append(tuple(row))
    return tuple(rows)


def schedule_in(tables, sums, b, a, start, stop):
    """The schedule of an interval in whose tree each node is a least root within what is left of (b, a)."""
    if start == stop:
        return ()
    root = least_root(tables[b][a - 1], tables[b - 1][a], sums, start, stop)
    left = schedule_in(tables, sums, b, a - 1, start, root)
    return joined(left, schedule_in(tables, sums, b - 1, a, root + 1, stop))


def table_within(sizes, reads, k, c):
    """The tables of the least works within all budgets up to (k, c)."""
    check_arguments(sizes, reads, k, c)
    return least_tables(sizes, reads, k, c)


def shows_bound_within(sizes, reads, k, c, bound, value):
    """Whether a value of any kind holds tables for all budgets up to (k, c) that show this bound."""
    check_arguments(sizes, reads, k, c)
    n = len(sizes)
    if not is_bound(bound) or not is_grid(value, k, c):
        return False
    budgets = [(b, a) for b in range(k + 1) for a in range(c + 1)]
    if not all([has_bounds(value[b][a], n, lifetime(b, a)) for b, a in budgets]):
        return False
    sums = load_sums(sizes, reads)
    if not all([is_table_of(value, sums, b, a, n) for b, a in budgets]):
        return False
    return value[k][c][0][n] == bound


def is_bound(value):
    """Whether a value of any kind can bound a work; None stands for no schedule at all."""
    return value is None or is_int(value)


def is_grid(value, k, c):
    """Whether a value of any kind is a tuple of k + 1 tuples of c + 1 values each."""
    if not isinstance(value, tuple) or len(value) != k + 1:
        return False
    return all([isinstance(row, tuple) and len(row) == c + 1 for row in value])


def has_bounds(value, n, longest):
    """Whether a value of any kind has ints for the intervals of at most `longest` flushes, and None for longer ones."""
    if not has_shape(value, n) or not all([is_bound(bound) for row in value for bound in row]):
        return False
    return all([(bound is None) == (flushes > longest) for row in value for flushes, bound in enumerate(row)])


def is_table_of(tables, sums, b, a, n):
    """Whether the bounds of the table of (b, a) are as low as the tables below it require."""
    rows = tables[b][a]
    # Without a budget left there are bounds of empty intervals only, which have no root.
    lefts = tables[b][a - 1] if a > 0 else rows
    rights = tables[b - 1][a] if b > 0 else rows
    known = [(start, stop) for start, stop in intervals(n) if rows[start][stop - start] is not None]
    return all([is_low(rows, lefts, rights, sums, start, stop) for start, stop in known])
