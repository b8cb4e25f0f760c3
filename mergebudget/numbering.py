"""Numbering: how many schedules there are, and which index each of them has."""

from mergebudget.errors import InvalidCount, InvalidIndex, InvalidSchedule, OutsideBudget
from mergebudget.kinds import MOST_BUDGET, check_budgets, is_count_up_to
from mergebudget.schedules import MOST_FLUSHES, is_schedule, run_counts, runs_at_end, writes


def count_schedules(n):
    """The number of schedules of `n` flushes."""
    check_flushes(n)
    return continuations(n)[n][0]


def check_flushes(n):
    """Raises an error unless `n` is a number of flushes that a schedule may have."""
    if not is_count_up_to(n, MOST_FLUSHES):
        raise InvalidCount(n)


def continuations(n):
    """In row m at r: in how many ways m flushes can follow on r runs, where all flushes are at most `n`."""
    rows = [[1] * (n + 1)]
    while len(rows) <= n:
        row = []
        total = 0
        # On r runs a flush leaves from 1 to r + 1 runs, so each place adds one choice to the place before.
        for ways in rows[-1][1:]:
            total += ways
            row.append(total)
        rows.append(row)
    return rows


def index_of(schedule):
    """The index of a schedule among all schedules of as many flushes, ascending."""
    if not is_schedule(schedule):
        raise InvalidSchedule(schedule)
    rows = continuations(len(schedule))
    before = 0
    runs = 0
    for flush, merge in enumerate(schedule):
        ways = rows[len(schedule) - 1 - flush]
        left = runs + 1 - merge
        # Schedules that merge fewer runs here, and so leave more, stand before this one.
        before += sum(ways[left + 1 : runs + 2])
        runs = left
    return before


def schedule_at(n, index):
    """The schedule with this index among all schedules of `n` flushes, ascending."""
    check_flushes(n)
    rows = continuations(n)
    if not is_count_up_to(index, rows[n][0] - 1):
        raise InvalidIndex(index)
    merges = []
    runs = 0
    before = index
    for flush in range(n):
        ways = rows[n - 1 - flush]
        left = runs + 1
        while before >= ways[left]:
            before -= ways[left]
            left -= 1
        merges.append(runs + 1 - left)
        runs = left
    return tuple(merges)


def count_within(n, k, c):
    """The number of schedules of `n` flushes within the budgets."""
    check_flushes(n)
    check_budgets(k, c, MOST_BUDGET)
    return counts_within(n, k, c)[k, c][n]


def counts_within(n, k, c):
    """For budgets (b, a) up to (k, c): the number of trees within them, of each size from 0 on.

    The path to a subtree within (b, a) has k - b right and c - a left edges and as many
    nodes, so only the sizes that these leave over are counted.
    """
    counts = {}
    for b in range(max(0, k - n), k + 1):
        for a in range(max(0, c - n), c + 1):
            most = n - (k - b) - (c - a)
            if most < 0:
                continue
            if most == 0 or b == 0 or a == 0:
                counts[b, a] = [1] + [0] * most
            else:
                counts[b, a] = counts_by_size(counts[b, a - 1], counts[b - 1, a])
    return counts


def counts_by_size(lefts, rights):
    """The number of trees of each size, from those of their left and of their right subtrees."""
    counts = [1]
    for below in range(len(lefts)):
        counts.append(sum([left * right for left, right in zip(lefts, rights[below::-1])]))
    return counts


def index_within(schedule, k, c):
    """The index of a schedule among those of as many flushes within the budgets, in tree order."""
    if not is_schedule(schedule):
        raise InvalidSchedule(schedule)
    check_budgets(k, c, MOST_BUDGET)
    if max(run_counts(schedule), default=0) > k or max(writes(schedule), default=0) > c:
        raise OutsideBudget(schedule)
    return place_of(schedule, k, c, counts_within(len(schedule), k, c))


def place_of(schedule, b, a, counts):
    """How many schedules of as many flushes within (b, a) stand before this one."""
    if not schedule:
        return 0
    root = root_of(schedule)
    below = len(schedule) - 1
    lefts = counts[b, a - 1]
    rights = counts[b - 1, a]
    smaller_root = sum([lefts[other] * rights[below - other] for other in range(root)])
    smaller_left = place_of(schedule[:root], b, a - 1, counts) * rights[below - root]
    return smaller_root + smaller_left + place_of(schedule[root + 1 :], b - 1, a, counts)


def root_of(schedule):
    """The last flush that writes the oldest run, which is the last one that leaves one run."""
    root = 0
    runs = 0
    for flush, merge in enumerate(schedule):
        runs += 1 - merge
        if runs == 1:
            root = flush
    return root


def schedule_within(n, k, c, index):
    """The schedule with this index among those of `n` flushes within the budgets, in tree order."""
    check_flushes(n)
    check_budgets(k, c, MOST_BUDGET)
    counts = counts_within(n, k, c)
    if not is_count_up_to(index, counts[k, c][n] - 1):
        raise InvalidIndex(index)
    return schedule_in_place(n, b=k, a=c, place=index, counts=counts)


def schedule_in_place(n, b, a, place, counts):
    """The schedule of `n` flushes within (b, a) that `place` others stand before."""
    if n == 0:
        return ()
    lefts = counts[b, a - 1]
    rights = counts[b - 1, a]
    root = 0
    before = place
    while before >= lefts[root] * rights[n - 1 - root]:
        before -= lefts[root] * rights[n - 1 - root]
        root += 1
    left_place, right_place = divmod(before, rights[n - 1 - root])
    left = schedule_in_place(root, b, a - 1, left_place, counts)
    right = schedule_in_place(n - 1 - root, b - 1, a, right_place, counts)
    # The root writes the oldest run, so it merges all runs that its left subtree leaves.
    return left + (runs_at_end(left),) + right
