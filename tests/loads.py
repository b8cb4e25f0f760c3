"""What the tests of sizes and reads share: plain counts and trials of all roots, sample loads, changed tables."""

import functools
import random

from tests.budgets import plain_lifetime
from tests.samples import simulate

MOST_LOAD = 10**9

# ---- plain counts


def plain_write_work(schedule, sizes):
    history, written = simulate(schedule)
    total = 0
    for size, many in zip(sizes, written, strict=True):
        for time in range(many):
            total += size
    return total


def plain_read_work(schedule, reads):
    history, written = simulate(schedule)
    total = 0
    for many, runs in zip(reads, history, strict=True):
        for run in runs:
            total += many
    return total


def plain_work(schedule, sizes, reads):
    return plain_write_work(schedule, sizes) + plain_read_work(schedule, reads)


def plain_cost(sizes, reads, start, stop, root):
    """The cost of a root, by the words of point 12."""
    return sum(sizes[start : root + 1]) + sum(reads[root:stop])


# ---- a trial of every root of every interval


class Trial:
    """The least works and least roots of all intervals, with or without budgets (None stands for none)."""

    def __init__(self, sizes, reads):
        self.sizes = sizes
        self.reads = reads
        self.n = len(sizes)
        self.best = functools.cache(self.try_all)
        self.cost = functools.cache(lambda start, stop, root: plain_cost(sizes, reads, start, stop, root))

    def try_all(self, start, stop, k=None, c=None):
        """The least work of an interval and its smallest root, or None if there is no tree."""
        if start == stop:
            return (0, None)
        if k == 0 or c == 0:
            return None
        found = None
        for root in range(start, stop):
            left = self.best(start, root, k, c if c is None else c - 1)
            right = self.best(root + 1, stop, k if k is None else k - 1, c)
            if left is not None and right is not None:
                tried = left[0] + right[0] + self.cost(start, stop, root)
                if found is None or tried < found[0]:
                    found = (tried, root)
        return found

    def parents(self, start, stop, parent, k=None, c=None):
        """The tree of the least roots, as the parents of its nodes."""
        if start == stop:
            return ()
        root = self.best(start, stop, k, c)[1]
        left = self.parents(start, root, root, k, c if c is None else c - 1)
        right = self.parents(root + 1, stop, root, k if k is None else k - 1, c)
        return left + (parent,) + right

    def tree(self, k=None, c=None):
        return self.parents(0, self.n, -1, k, c)

    def table(self, k=None, c=None):
        """The least works of all intervals; None where there is no tree."""
        rows = []
        for start in range(self.n + 1):
            found = [self.best(start, stop, k, c) for stop in range(start, self.n + 1)]
            rows.append(tuple(None if one is None else one[0] for one in found))
        return tuple(rows)

    def roots(self):
        return tuple(
            tuple(self.best(start, stop, None, None)[1] for stop in range(start + 1, self.n + 1))
            for start in range(self.n)
        )

    def tables(self, k, c):
        return tuple(tuple(self.table(b, a) for a in range(c + 1)) for b in range(k + 1))


# ---- sample loads


def random_loads(rng, n, most):
    return tuple(rng.randint(0, most) for flush in range(n))


def shaped_loads(n):
    """Loads of n flushes that are known by their shape."""
    found = [(0,) * n, (1,) * n, (3,) * n, (MOST_LOAD,) * n, tuple(range(n)), tuple(range(n, 0, -1))]
    found.append(tuple(flush % 2 for flush in range(n)))
    found.append(((0, 0, MOST_LOAD) * n)[:n])
    found.append(((7,) + (0,) * n)[:n])
    found.append((0,) * (n - 1) + (7,) if n else ())
    return found


def load_pairs(n, seed):
    """Sizes and reads of n flushes: shaped ones, and random ones from equal to great."""
    rng = random.Random(seed)
    shapes = shaped_loads(n)
    found = [(sizes, reads) for sizes in shapes[:4] for reads in shapes[:4]]
    found.extend((rng.choice(shapes), rng.choice(shapes)) for turn in range(6))
    for most in (0, 1, 2, 5, 100, MOST_LOAD):
        found.append((random_loads(rng, n, most), random_loads(rng, n, most)))
        found.append((random_loads(rng, n, most), random_loads(rng, n, 3)))
    return found


def small_pairs(n, seed):
    """A few pairs of loads of n flushes, with ties among them."""
    rng = random.Random(seed)
    found = [((1,) * n, (1,) * n), ((0,) * n, (0,) * n), ((2,) * n, (1,) * n), (tuple(range(n)), (1,) * n)]
    found.extend((random_loads(rng, n, most), random_loads(rng, n, most)) for most in (1, 2, 9, MOST_LOAD))
    return found


def plain_are_loads(value, fewest, most):
    if type(value) is not tuple or len(value) < fewest or len(value) > most:
        return False
    return all(type(part) is int and 0 <= part <= MOST_LOAD for part in value)


def changed_loads(value):
    """Variants of sizes or reads in which one thing is different; some may still be right."""
    found = [list(value), value[:-1], value + (0,), value + (1, 1), str(value), (value,), [value]]
    found.append(dict(enumerate(value)))
    for at in range(len(value)):
        parts = (
            True, False, None, "", str(value[at]), -1, -value[at] - 1, MOST_LOAD, MOST_LOAD + 1, 10**59, (value[at],),
            [value[at]], {}, (), 0,
        )  # fmt: skip
        found.extend(value[:at] + (part,) + value[at + 1 :] for part in parts)
    return found


# ---- the checkers of bounds, by the words of points 13 and 14


def has_rows(value, n):
    if type(value) is not tuple or len(value) != n + 1:
        return False
    return all(type(row) is tuple and len(row) == n + 1 - at for at, row in enumerate(value))


def plain_shows_bound(sizes, reads, bound, value):
    n = len(sizes)
    if type(bound) is not int or not has_rows(value, n):
        return False
    if any(type(part) is not int for row in value for part in row):
        return False
    for i in range(n + 1):
        if value[i][0] > 0:
            return False
        for j in range(i + 1, n + 1):
            for t in range(i, j):
                if value[i][j - i] > value[i][t - i] + value[t + 1][j - t - 1] + plain_cost(sizes, reads, i, j, t):
                    return False
    return value[0][n] == bound


def plain_shows_within(sizes, reads, k, c, bound, value):
    n = len(sizes)
    if bound is not None and type(bound) is not int:
        return False
    if type(value) is not tuple or len(value) != k + 1:
        return False
    if any(type(row) is not tuple or len(row) != c + 1 for row in value):
        return False
    if not all(has_rows(rows, n) for row in value for rows in row):
        return False
    for b in range(k + 1):
        for a in range(c + 1):
            for i, row in enumerate(value[b][a]):
                for many, part in enumerate(row):
                    if part is not None and type(part) is not int:
                        return False
                    if (part is None) != (many > plain_lifetime(b, a)):
                        return False
                    if many == 0 and part > 0:
                        return False
    for b in range(1, k + 1):
        for a in range(1, c + 1):
            if not is_low_within(sizes, reads, value[b][a], value[b][a - 1], value[b - 1][a]):
                return False
    return value[k][c][0][n] == bound


def is_low_within(sizes, reads, rows, lefts, rights):
    n = len(sizes)
    for i in range(n):
        for j in range(i + 1, n + 1):
            for t in range(i, j):
                left, right = lefts[i][t - i], rights[t + 1][j - t - 1]
                if rows[i][j - i] is None or left is None or right is None:
                    continue
                if rows[i][j - i] > left + right + plain_cost(sizes, reads, i, j, t):
                    return False
    return True


# ---- tables with one thing changed


def other_parts(part):
    """What may stand in place of one element of a table."""
    number = 0 if part is None else part
    return (
        number + 1, number - 1, 0, -1, number + 10**20, number - 10**20, 10**59, True, False, None, str(part), (part,),
        [part], {}, "",
    )  # fmt: skip


def changed_places(value, leaves):
    """All variants of nested tuples with one thing changed at one place, at any depth."""
    yield from (list(value), value[:-1], value[1:], value + value[-1:], value[::-1], (value,), str(value), None, True)
    yield from (dict(enumerate(value)), (), 0, value + (None,), value + (0,), value + ((),), (0,) + value)
    for at, part in enumerate(value):
        front, behind = value[:at], value[at + 1 :]
        yield front + behind
        yield front + (part, part) + behind
        if type(part) is tuple:
            variants = changed_places(part, leaves)
        else:
            variants = leaves(part)
        for variant in variants:
            yield front + (variant,) + behind
