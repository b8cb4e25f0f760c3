"""The errors of the package: one class for each kind of failure.

Each keeps the value that caused it in the field `value`, except for the last two.
"""


class MergeBudgetError(ValueError):
    """What all errors of this package have in common."""


class InvalidSchedule(MergeBudgetError):
    """A value that is not a schedule within the limit of flushes."""

    def __init__(self, value):
        self.value = value


class InvalidTree(MergeBudgetError):
    """A value that is not a tree within the limit of nodes."""

    def __init__(self, value):
        self.value = value


class InvalidCount(MergeBudgetError):
    """A value that is not a count within the limit of the call."""

    def __init__(self, value):
        self.value = value


class InvalidIndex(MergeBudgetError):
    """A value that is not the index of a schedule."""

    def __init__(self, value):
        self.value = value


class InvalidBudget(MergeBudgetError):
    """A value that is not a budget within the limit of the call."""

    def __init__(self, value):
        self.value = value


class OutsideBudget(MergeBudgetError):
    """A schedule that is not within the budgets."""

    def __init__(self, value):
        self.value = value


class InvalidSizes(MergeBudgetError):
    """A value that is not a tuple of sizes, one for each flush."""

    def __init__(self, value):
        self.value = value


class InvalidReads(MergeBudgetError):
    """A value that is not a tuple of reads, one for each flush."""

    def __init__(self, value):
        self.value = value


class InvalidState(MergeBudgetError):
    """A value that is not a state within the budgets."""

    def __init__(self, value):
        self.value = value


class InvalidMerge(MergeBudgetError):
    """A value that is not a number of runs that the flush may merge."""

    def __init__(self, value):
        self.value = value


class InvalidPolicy(MergeBudgetError):
    """A value that is not a policy of a store."""

    def __init__(self, value):
        self.value = value


class InvalidKey(MergeBudgetError):
    """A value that is not a key of a store."""

    def __init__(self, value):
        self.value = value


class InvalidValue(MergeBudgetError):
    """A value that a store does not keep."""

    def __init__(self, value):
        self.value = value


class InvalidMoment(MergeBudgetError):
    """A value that is not a moment of a store."""

    def __init__(self, value):
        self.value = value


class InvalidText(MergeBudgetError):
    """The number of the first line of a text that is wrong."""

    def __init__(self, value):
        self.value = value


class InvalidLine(MergeBudgetError):
    """A value that is not a command of a desk."""

    def __init__(self, value):
        self.value = value


class Exhausted(MergeBudgetError):
    """A store that accepts no further flush."""


class NothingToUndo(MergeBudgetError):
    """A store that has nothing to revert."""
