"""Policies: for each number of runs one infinite schedule that writes as little as any other."""

from mergebudget.errors import InvalidBudget, InvalidCount
from mergebudget.kinds import MOST_BUDGET, is_count_up_to
from mergebudget.schedules import MOST_FLUSHES
from mergebudget.states import choose

MOST_POSITION = 10 ** 18


def least_writes(n, k):
    """The least count c such that `n` is at most C(k + c, k) - 1."""
    check_number(n, MOST_POSITION)
    check_runs(k)
    return writes_needed(n, k)


def check_number(number, most):
    """Raises an error unless the number is a count of at most `most`."""
    if not is_count_up_to(number, most):
        raise InvalidCount(number)


def check_runs(k):
    """Raises an error unless `k` is a number of runs that a policy can keep to."""
    if not is_count_up_to(k, MOST_BUDGET) or k == 0:
        raise InvalidBudget(k)


def writes_needed(n, k):
    """The least c with `n` below C(k + c, k), found by doubling and then by halving."""
    enough = 1
    while choose(k + enough, k) <= n:
        enough *= 2
    # -1 is too few even for no flush, since C(k - 1, k) is 0.
    too_few = enough // 2 if enough > 1 else -1
    while enough - too_few > 1:
        middle = (too_few + enough) // 2
        if choose(k + middle, k) <= n:
            too_few = middle
        else:
            enough = middle
    return enough


def policy_merge(k, i):
    """The number of runs that flush `i` of the policy for `k` runs merges."""
    check_runs(k)
    check_number(i, MOST_POSITION)
    # Flush i adds one run and removes those that it merges.
    return len(run_lengths(k, i)) + 1 - len(run_lengths(k, i + 1))


def run_lengths(k, n):
    """The terms above 0 of the combinatorial representation of `n` with `k` terms."""
    lengths = []
    rest = n
    term = k
    # The term C(a, 1) takes all that is left, so this ends before the terms do.
    while rest > 0:
        length = choose(term - 1 + writes_needed(rest, term), term)
        lengths.append(length)
        rest -= length
        term -= 1
    return tuple(lengths)


def policy_runs(k, n):
    """The lengths of the runs, oldest first, after the first `n` flushes of the policy."""
    check_runs(k)
    check_number(n, MOST_POSITION)
    return run_lengths(k, n)


def policy_schedule(k, n):
    """The schedule of the first `n` flushes of the policy."""
    check_runs(k)
    check_number(n, MOST_FLUSHES)
    return tuple([policy_merge(k, flush) for flush in range(n)])
