"""Tests of the kind of a value, which the checks of arguments share."""


def is_int(value):
    """Whether the value is an int; a bool is none."""
    return isinstance(value, int) and not isinstance(value, bool)


def is_count_up_to(value, most):
    """Whether the value is a count of at most `most`."""
    return is_int(value) and 0 <= value <= most
