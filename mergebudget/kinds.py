"""Tests of the kind of a value, and the checks of budgets and loads, which the checks of arguments share."""

from mergebudget.errors import InvalidBudget, InvalidReads, InvalidSizes

MOST_BUDGET = 60
MOST_LOAD = 10 ** 9


def is_int(value):
    """Whether the value is an int; a bool is none."""
    return isinstance(value, int) and not isinstance(value, bool)


def is_count(value):
    """Whether the value is a count."""
    return is_int(value) and value >= 0


def is_count_up_to(value, most):
    """Whether the value is a count of at most `most`."""
    return is_count(value) and value <= most


def check_budgets(k, c, most):
    """Raises an error unless both budgets are counts of at most `most`."""
    for budget in (k, c):
        if not is_count_up_to(budget, most):
            raise InvalidBudget(budget)


def are_loads(value, fewest, most):
    """Whether the value is a tuple of `fewest` to `most` sizes or reads."""
    if not isinstance(value, tuple) or not fewest <= len(value) <= most:
        return False
    return all([is_count_up_to(load, MOST_LOAD) for load in value])


def check_sizes(sizes, fewest, most):
    """Raises an error unless there are `fewest` to `most` sizes."""
    if not are_loads(sizes, fewest, most):
        raise InvalidSizes(sizes)


def check_reads(reads, flushes):
    """Raises an error unless there are reads for just so many flushes."""
    if not are_loads(reads, flushes, flushes):
        raise InvalidReads(reads)


def check_loads(sizes, reads, most):
    """Raises an error unless there are at most `most` sizes, and as many reads."""
    check_sizes(sizes, 0, most)
    check_reads(reads, len(sizes))
