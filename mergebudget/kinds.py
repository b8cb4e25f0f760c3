"""Tests of the kind of a value, and the check of budgets, which the checks of arguments share."""

from mergebudget.errors import InvalidBudget

MOST_BUDGET = 60


def is_int(value):
    """Whether the value is an int; a bool is none."""
    return isinstance(value, int) and not isinstance(value, bool)


def is_count(value):
    """Whether the value is a count."""
    return is_int(value) and value >= 0


def is_count_up_to(value, most):
    """Whether the value is a count of at most `most`."""
    return is_count(value) and value <= most


def check_budgets(k, c, most):
    """Raises an error unless both budgets are counts of at most `most`."""
    for budget in (k, c):
        if not is_count_up_to(budget, most):
            raise InvalidBudget(budget)
