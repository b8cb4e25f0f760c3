"""States: what a stack means for the budgets, and how many flushes it can still take."""

from mergebudget.errors import InvalidMerge, InvalidSchedule, InvalidState
from mergebudget.kinds import MOST_BUDGET, check_budgets, is_count_up_to, is_int
from mergebudget.schedules import is_schedule


def is_state(value, k, c):
    """Whether a value of any kind is a state within the budgets."""
    check_budgets(k, c, MOST_BUDGET)
    if not isinstance(value, tuple) or len(value) > k:
        return False
    return all([is_int(count) and 1 <= count <= c for count in value])


def check_state(state, k, c):
    """Raises an error unless the budgets are budgets and the state is within them."""
    if not is_state(state, k, c):
        raise InvalidState(state)


def state_of(schedule):
    """The state directly after the last flush of a schedule."""
    if not is_schedule(schedule):
        raise InvalidSchedule(schedule)
    state = ()
    for merge in schedule:
        state = state_after(state, merge)
    return state


def state_after(state, merge):
    """The state after a flush that merges the newest `merge` runs, within any budgets or not."""
    kept = len(state) - merge
    return state[:kept] + (1 + max(state[kept:], default=0),)


def next_state(state, merge, k, c):
    """The state after a flush that merges `merge` runs and keeps to the budgets."""
    check_state(state, k, c)
    if not is_count_up_to(merge, len(state)):
        raise InvalidMerge(merge)
    after = state_after(state, merge)
    if not is_state(after, k, c):
        raise InvalidMerge(merge)
    return after


def lifetime(k, c):
    """The greatest number of flushes of a schedule within the budgets."""
    check_budgets(k, c, MOST_BUDGET)
    return choose(k + c, k) - 1


def choose(n, k):
    """The binomial coefficient C(n, k), for counts with k of at most n."""
    result = 1
    for factor in range(1, min(k, n - k) + 1):
        result = result * (n + 1 - factor) // factor
    return result


def remaining(state, k, c):
    """The greatest number of further flushes that can follow from this state within the budgets."""
    check_state(state, k, c)
    runs = k
    most = c
    flushes = 0
    for at in range(len(state)):
        # Until all these runs are merged for the first time, the newer ones live on their own:
        # with one run less, and no data above the worst of all. From then on each merge of all
        # runs adds one write to the oldest, up to `most`, and a lifetime with one run less follows.
        worst = max(state[at:])
        flushes += choose(runs + most, runs) - choose(runs + worst, runs)
        runs -= 1
        most = worst
    return flushes + choose(runs + most, runs) - 1


def best_merge(state, k, c):
    """The merge after which remaining is smaller by exactly one, or None if there is none."""
    check_state(state, k, c)
    fewest = 0 if len(state) < k else 1
    # A merge whose data stay within the writes of the next older run makes no later merge of
    # that run worse, and the fewest such runs waste the least. Behind the oldest stands the budget.
    bounds = (c,) + state
    for merge in range(fewest, len(state) + 1):
        kept = len(state) - merge
        if max(state[kept:], default=0) < bounds[kept]:
            return merge
    return None
