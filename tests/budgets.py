"""What the tests of budgets share: plain listings, searches through all merges, sample states."""

import functools
import itertools
import random

from tests.samples import MOST, simulate


def triangle(rows):
    """The binomial coefficients C(n, k) for n below `rows`, by addition only."""
    found = [[1]]
    while len(found) < rows:
        above = found[-1]
        found.append([1] + [above[at] + above[at + 1] for at in range(len(above) - 1)] + [1])
    return found


TRIANGLE = triangle(2 * MOST + 2)


def plain_lifetime(k, c):
    return TRIANGLE[k + c][k] - 1


# ---- schedules


@functools.cache
def needed_budgets(schedule):
    """The least budgets (k, c) that a schedule is within, from its simulation."""
    history, written = simulate(schedule)
    return max([len(runs) for runs in history], default=0), max(written, default=0)


def plain_within(schedule, k, c):
    runs, written = needed_budgets(schedule)
    return runs <= k and written <= c


@functools.cache
def tree_key(schedule):
    """What tree order compares: the root, then the left subtree, then the right one."""
    if not schedule:
        return ()
    history, written = simulate(schedule)
    root = max(flush for flush, runs in enumerate(history) if flush in runs[0])
    return (root, tree_key(schedule[:root]), tree_key(schedule[root + 1 :]))


@functools.cache
def plain_count_within(n, k, c):
    """The number of trees of n nodes within the budgets, one root after the other."""
    if n == 0:
        return 1
    if k == 0 or c == 0:
        return 0
    return sum(plain_count_within(root, k, c - 1) * plain_count_within(n - 1 - root, k - 1, c) for root in range(n))


def walked_counts(most, k, c):
    """The number of schedules of 0, 1, .. `most` flushes within the budgets, counted along their states."""
    ways = {(): 1}
    found = [1]
    for flush in range(most):
        later = {}
        for state, many in ways.items():
            for after in plain_afters(state, k, c):
                later[after] = later.get(after, 0) + many
        ways = later
        found.append(sum(ways.values()))
    return found


# ---- states


def plain_is_budget(value, most=MOST):
    return type(value) is int and 0 <= value <= most


def plain_is_state(value, k, c):
    if type(value) is not tuple:
        return False
    for part in value:
        if type(part) is not int or part < 1 or part > c:
            return False
    return len(value) <= k


def plain_state(schedule):
    """The greatest write count in each run after the last flush."""
    history, written = simulate(schedule)
    return tuple(max(written[flush] for flush in run) for run in (history[-1] if history else []))


def plain_after(state, merge):
    """The state after a flush, whether or not it is within any budgets."""
    rest = list(state)
    merged = [0] + [rest.pop() for run in range(merge)]
    return tuple(rest + [1 + max(merged)])


def plain_afters(state, k, c):
    """The states behind all merges that keep to the budgets."""
    afters = [plain_after(state, merge) for merge in range(len(state) + 1)]
    return [after for after in afters if plain_is_state(after, k, c)]


@functools.cache
def plain_remaining(state, k, c):
    """The greatest number of further flushes, by a search through all merges."""
    return max([1 + plain_remaining(after, k, c) for after in plain_afters(state, k, c)], default=0)


def plain_best_merges(state, k, c):
    """All merges after which the search finds one flush less."""
    left = plain_remaining(state, k, c)
    found = []
    for merge in range(len(state) + 1):
        after = plain_after(state, merge)
        if plain_is_state(after, k, c) and plain_remaining(after, k, c) == left - 1:
            found.append(merge)
    return found


def all_states(k, c):
    """All states within the budgets."""
    return [state for runs in range(k + 1) for state in itertools.product(range(1, c + 1), repeat=runs)]


def plain_reached(state, k, c):
    """All states that a state reaches, with itself, ascending."""
    found = [state]
    for current in found:
        found.extend(after for after in plain_afters(current, k, c) if after not in found)
    return sorted(set(found))


def plain_potentials(state, k, c):
    return tuple((reached, plain_remaining(reached, k, c)) for reached in plain_reached(state, k, c))


def great_states():
    """Triples (state, k, c) with great budgets and states of up to forty runs."""
    rng = random.Random(71)
    found = []
    for turn in range(300):
        runs = rng.randint(0, 40)
        k = rng.choice((runs, runs + 1, min(runs + 2, MOST), MOST, rng.randint(runs, MOST)))
        c = rng.choice((1, 2, 3, 5, rng.randint(1, MOST), MOST))
        low = rng.choice((1, 1, max(1, c - 2)))
        high = rng.choice((c, c, max(low, c - 1), low))
        state = [rng.randint(low, high) for run in range(runs)]
        shape = rng.randrange(4)
        if shape == 0:
            state = sorted(state, reverse=True)
        elif shape == 1:
            state = sorted(state)
        found.append((tuple(state), k, c))
    descending = tuple(range(40, 0, -1))
    found.extend([(descending, 40, 40), (descending, 40, 41), (descending, 60, 60), (descending[::-1], 40, 60)])
    found.extend([((60,) * 40, 40, 60), ((60,) * 40, 41, 60), ((1,) * 40, 40, 1), ((1,) * 40, 40, 2), ((1,), 1, 60)])
    found.extend([((), 60, 60), ((), 0, 60), ((), 60, 0), ((), 0, 0), ((), 1, 1), ((60,), 60, 60), ((1,), 60, 1)])
    return found
