import copy
import functools
import itertools
import random
import unittest

from mergebudget.bounded import least_work_within, shows_bound_within, table_within
from mergebudget.optimum import least_work
from mergebudget.policies import policy_schedule
from mergebudget.schedules import all_schedules
from mergebudget.tables import table
from mergebudget.trees import schedule_of
from mergebudget.work import work
from tests.budgets import needed_budgets, plain_lifetime, plain_within, tree_key
from tests.loads import (
    MOST_LOAD, Trial, changed_places, load_pairs, other_parts, plain_shows_within, plain_work, random_loads,
    small_pairs,
)  # fmt: skip
from tests.samples import assert_bool, assert_same, fixed_values, random_values

ALL_BUDGETS = list(itertools.product(range(9), repeat=2))
FEW_BUDGETS = [(0, 0), (0, 3), (3, 0), (1, 1), (1, 2), (2, 1), (2, 2), (1, 8), (8, 1), (3, 2), (2, 3), (8, 8), (4, 4)]


@functools.cache
def listed(n):
    """All schedules of n flushes with the least budgets that they are within."""
    return tuple((schedule, needed_budgets(schedule)) for schedule in all_schedules(n))


def great_pairs():
    """Loads of up to fourteen flushes, from zero to the greatest."""
    for n in (7, 9, 13, 14):
        yield from small_pairs(n, n + 60)


class ListedTest(unittest.TestCase):
    """Against all schedules of up to six flushes, each simulated."""

    def test_least_work_and_its_schedule(self):
        for n in range(7):
            budgets = ALL_BUDGETS if n < 5 else FEW_BUDGETS + [(5, 5), (6, 6), (3, 3), (2, 6), (6, 2), (1, 6), (6, 1)]
            for sizes, reads in small_pairs(n, n + 61):
                works = {schedule: plain_work(schedule, sizes, reads) for schedule, needed in listed(n)}
                for k, c in budgets:
                    inside = [schedule for schedule, (runs, written) in listed(n) if runs <= k and written <= c]
                    wanted = None
                    if inside:
                        # The smallest roots, from the top down, are the first of the best in tree order.
                        best = min(inside, key=lambda schedule: (works[schedule], tree_key(schedule)))
                        wanted = (works[best], best)
                    assert_same(self, least_work_within(sizes, reads, k, c), wanted)

    def test_every_element_of_the_tables(self):
        for n in range(5):
            for sizes, reads in load_pairs(n, n + 62)[::3]:
                found = table_within(sizes, reads, 3, 4)
                self.assertEqual([len(row) for row in found], [5] * 4)
                for b, a in itertools.product(range(4), range(5)):
                    rows = found[b][a]
                    self.assertEqual([len(row) for row in rows], list(range(n + 1, 0, -1)))
                    for start in range(n + 1):
                        for stop in range(start, n + 1):
                            loads = (sizes[start:stop], reads[start:stop])
                            inside = [one for one, (runs, times) in listed(stop - start) if runs <= b and times <= a]
                            wanted = min([plain_work(schedule, *loads) for schedule in inside], default=None)
                            assert_same(self, rows[start][stop - start], wanted)


class TrialTest(unittest.TestCase):
    """Against a trial of every root within the budgets that are left."""

    def check(self, sizes, reads, budgets):
        trial = Trial(sizes, reads)
        for k, c in budgets:
            found = trial.best(0, len(sizes), k, c)
            wanted = None if found is None else (found[0], schedule_of(trial.tree(k, c)))
            assert_same(self, least_work_within(sizes, reads, k, c), wanted)
            if (k, c) in FEW_BUDGETS:
                assert_same(self, table_within(sizes, reads, k, c), trial.tables(k, c))

    def test_short_ones(self):
        for n in range(7):
            for sizes, reads in load_pairs(n, n + 63)[::2]:
                self.check(sizes, reads, FEW_BUDGETS)

    def test_long_ones_with_all_budgets(self):
        for n in (6, 10, 14):
            for sizes, reads in small_pairs(n, n + 64)[::3]:
                self.check(sizes, reads, ALL_BUDGETS)

    def test_long_ones(self):
        for sizes, reads in great_pairs():
            self.check(sizes, reads, FEW_BUDGETS + [(8, 2), (2, 8), (3, 3), (4, 2), (2, 4), (7, 8), (8, 7)])

    def test_all_small_loads(self):
        for n in range(4):
            for sizes in itertools.product(range(2), repeat=n):
                for reads in itertools.product(range(2), repeat=n):
                    self.check(sizes, reads, [(1, 3), (2, 2), (3, 1), (2, 1), (3, 3)])


class ByHandTest(unittest.TestCase):
    def test_none_exactly_beyond_the_lifetime(self):
        for n in range(15):
            for k, c in ALL_BUDGETS:
                found = least_work_within((1,) * n, (1,) * n, k, c)
                self.assertEqual(found is None, n > plain_lifetime(k, c), (n, k, c))
                if found is not None:
                    least, schedule = found
                    self.assertEqual(len(schedule), n)
                    self.assertTrue(plain_within(schedule, k, c))
                    self.assertEqual(least, work(schedule, (1,) * n, (1,) * n))

    def test_none_for_intervals_beyond_the_lifetime(self):
        for k, c in ((0, 0), (1, 1), (2, 2), (1, 3), (3, 1), (3, 3), (8, 1), (1, 8)):
            found = table_within((1,) * 14, (1,) * 14, k, c)
            for b, a in itertools.product(range(k + 1), range(c + 1)):
                for row in found[b][a]:
                    for flushes, part in enumerate(row):
                        self.assertEqual(part is None, flushes > plain_lifetime(b, a))

    def test_no_flush(self):
        for k, c in ALL_BUDGETS:
            assert_same(self, least_work_within((), (), k, c), (0, ()))
            assert_same(self, table_within((), (), k, c), ((((0,),),) * (c + 1),) * (k + 1))

    def test_no_budget(self):
        for k, c in ((0, 0), (0, 1), (1, 0), (0, 8), (8, 0)):
            self.assertIsNone(least_work_within((1,), (1,), k, c))
            self.assertIsNone(least_work_within((0,) * 14, (0,) * 14, k, c))
            for row in table_within((1, 1), (1, 1), k, c):
                for rows in row:
                    assert_same(self, rows, ((0, None, None), (0, None), (0,)))

    def test_one_run(self):
        for n in range(1, 9):
            sizes, reads = tuple(range(3, 3 + n)), (2,) * n
            wanted = sum((n - flush) * size for flush, size in enumerate(sizes)) + 2 * n
            assert_same(self, least_work_within(sizes, reads, 1, 8), (wanted, ((0,) + (1,) * n)[:n]))
            assert_same(self, least_work_within(sizes, reads, 1, n), (wanted, ((0,) + (1,) * n)[:n]))
            self.assertIsNone(least_work_within(sizes, reads, 1, n - 1))

    def test_one_write(self):
        for n in range(1, 9):
            sizes, reads = (2,) * n, tuple(range(3, 3 + n))
            wanted = sum((flush + 1) * many for flush, many in enumerate(reads)) + 2 * n
            assert_same(self, least_work_within(sizes, reads, 8, 1), (wanted, (0,) * n))
            assert_same(self, least_work_within(sizes, reads, n, 1), (wanted, (0,) * n))
            self.assertIsNone(least_work_within(sizes, reads, n - 1, 1))

    def test_only_one_schedule_of_the_whole_lifetime(self):
        rng = random.Random(65)
        for k, c in ((1, 1), (2, 2), (2, 3), (3, 2), (1, 8), (8, 1), (4, 1), (1, 4)):
            n = plain_lifetime(k, c)
            sizes, reads = random_loads(rng, n, MOST_LOAD), random_loads(rng, n, MOST_LOAD)
            schedule = policy_schedule(k, n)
            assert_same(self, least_work_within(sizes, reads, k, c), (work(schedule, sizes, reads), schedule))

    def test_least_root_where_loads_are_zero(self):
        for n in range(1, 15):
            for k, c in ALL_BUDGETS:
                found = least_work_within((0,) * n, (0,) * n, k, c)
                if found is None:
                    continue
                # All schedules cost nothing, so the first in tree order is the one: the smallest root
                # that leaves no more flushes behind it than fit into one run less.
                self.assertEqual(found[0], 0)
                root = max(0, n - 1 - plain_lifetime(k - 1, c))
                self.assertEqual(tree_key(found[1])[0], root)

    def test_least_root_where_loads_are_equal(self):
        assert_same(self, least_work_within((1, 1), (1, 1), 2, 2), (5, (0, 0)))
        assert_same(self, least_work_within((1, 1), (1, 1), 1, 2), (5, (0, 1)))
        assert_same(self, least_work_within((1, 1, 1), (1, 1, 1), 2, 2), (8, (0, 1, 0)))
        assert_same(self, least_work_within((1,) * 4, (1,) * 4, 2, 2), (12, (0, 1, 0, 1)))
        assert_same(self, least_work_within((1,) * 5, (1,) * 5, 2, 2), (16, (0, 0, 2, 0, 1)))


class LawsTest(unittest.TestCase):
    def test_greater_budgets_never_cost_more(self):
        for sizes, reads in list(great_pairs())[::3]:
            found = {(k, c): least_work_within(sizes, reads, k, c) for k, c in ALL_BUDGETS}
            for k, c in ALL_BUDGETS:
                for other in ((k + 1, c), (k, c + 1)):
                    if found[k, c] is not None and other in found:
                        self.assertIsNotNone(found[other])
                        self.assertLessEqual(found[other][0], found[k, c][0])

    def test_budgets_that_exclude_nothing(self):
        for n in range(9):
            for sizes, reads in small_pairs(n, n + 66):
                assert_same(self, least_work_within(sizes, reads, 8, 8), least_work(sizes, reads))
                assert_same(self, least_work_within(sizes, reads, n, n), least_work(sizes, reads))
                assert_same(self, table_within(sizes, reads, 8, 8)[8][8], table(sizes, reads))

    def test_the_schedule_has_the_work_and_the_budgets(self):
        for sizes, reads in great_pairs():
            for k, c in FEW_BUDGETS + [(3, 8), (8, 3), (2, 5)]:
                found = least_work_within(sizes, reads, k, c)
                if found is not None:
                    self.assertTrue(plain_within(found[1], k, c))
                    self.assertEqual(found[0], work(found[1], sizes, reads))
                    self.assertGreaterEqual(found[0], least_work(sizes, reads)[0])
                    self.assertEqual(table_within(sizes, reads, k, c)[k][c][0][-1], found[0])
                else:
                    self.assertIsNone(table_within(sizes, reads, k, c)[k][c][0][-1])

    def test_mirrored_loads_with_exchanged_budgets(self):
        for sizes, reads in great_pairs():
            for k, c in FEW_BUDGETS:
                found = least_work_within(sizes, reads, k, c)
                other = least_work_within(reads[::-1], sizes[::-1], c, k)
                self.assertEqual(found and found[0], other and other[0])

    def test_tables_of_smaller_budgets_are_parts(self):
        rng = random.Random(67)
        sizes, reads = random_loads(rng, 10, 30), random_loads(rng, 10, 30)
        whole = table_within(sizes, reads, 5, 6)
        for k, c in itertools.product(range(6), range(7)):
            part = tuple(row[: c + 1] for row in whole[: k + 1])
            assert_same(self, table_within(sizes, reads, k, c), part)


class ShowsBoundTest(unittest.TestCase):
    def check(self, sizes, reads, k, c, bound, value):
        found = shows_bound_within(sizes, reads, k, c, bound, value)
        wanted = plain_shows_within(sizes, reads, k, c, bound, value)
        assert_bool(self, found, wanted, (sizes, reads, k, c, bound, value))
        return found

    def test_own_tables_with_the_right_bound_and_no_other(self):
        for n in range(7):
            for sizes, reads in small_pairs(n, n + 68):
                for k, c in FEW_BUDGETS:
                    rows = table_within(sizes, reads, k, c)
                    right = rows[k][c][0][-1]
                    self.assertIs(shows_bound_within(sizes, reads, k, c, right, rows), True)
                    others = [0, 1, -1, 10**59] if right is None else [None, right + 1, right - 1, -right - 1]
                    for bound in others:
                        self.assertIs(shows_bound_within(sizes, reads, k, c, bound, rows), False)

    def test_own_tables_of_fourteen_flushes(self):
        rng = random.Random(69)
        for most in (0, 1, MOST_LOAD):
            sizes, reads = random_loads(rng, 14, most), random_loads(rng, 14, most)
            for k, c in ((8, 8), (4, 2), (2, 4), (3, 3), (2, 2), (8, 1)):
                rows = table_within(sizes, reads, k, c)
                right = rows[k][c][0][-1]
                self.assertIs(shows_bound_within(sizes, reads, k, c, right, rows), True)
                self.assertIs(shows_bound_within(sizes, reads, k, c, (right or 0) + 1, rows), False)

    def test_one_thing_changed_at_any_depth(self):
        accepted = 0
        cases = [(n, k, c) for n in range(4) for k, c in ((0, 0), (1, 1), (1, 2), (2, 1), (0, 2))] + [(2, 2, 2)]
        for n, k, c in cases:
            for sizes, reads in small_pairs(n, n + 70)[::3]:
                rows = table_within(sizes, reads, k, c)
                for value in changed_places(rows, other_parts):
                    accepted += self.check(sizes, reads, k, c, rows[k][c][0][-1], value)
        self.assertGreater(accepted, 50)

    def test_one_thing_changed_in_larger_tables(self):
        rng = random.Random(71)
        for n, k, c in ((3, 2, 2), (4, 2, 2), (5, 2, 2), (5, 3, 2), (6, 2, 3)):
            sizes, reads = random_loads(rng, n, 6), random_loads(rng, n, 6)
            rows = table_within(sizes, reads, k, c)
            for value in rng.sample(list(changed_places(rows, other_parts)), 400):
                before = copy.deepcopy(value)
                self.check(sizes, reads, k, c, rows[k][c][0][-1], value)
                self.assertEqual(repr(value), repr(before))

    def test_claims_that_fit_a_changed_table(self):
        for sizes, reads in small_pairs(2, 72):
            for k, c in ((1, 1), (1, 2), (2, 1)):
                rows = table_within(sizes, reads, k, c)
                last = rows[k][c]
                for row in changed_places(last[0], other_parts):
                    value = rows[:k] + (rows[k][:c] + ((row,) + last[1:],),)
                    claim = row[-1] if type(row) is tuple and row else None
                    self.check(sizes, reads, k, c, claim, value)

    def test_lowered_tables(self):
        rng = random.Random(73)
        accepted = 0
        for n in range(6):
            for sizes, reads in small_pairs(n, n + 74):
                for k, c in ((1, 1), (2, 2), (3, 2)):
                    rows = table_within(sizes, reads, k, c)
                    right = rows[k][c][0][-1]
                    for low in (1, 20):
                        value = lowered(rng, rows, low)
                        accepted += self.check(sizes, reads, k, c, value[k][c][0][-1], value)
                        self.check(sizes, reads, k, c, right, value)
                    if right is not None:
                        last = rows[k][c]
                        # Nothing is built on the whole interval in the last table.
                        row = last[0][:-1] + (right - 5,)
                        value = rows[:k] + (rows[k][:c] + ((row,) + last[1:],),)
                        self.assertIs(shows_bound_within(sizes, reads, k, c, right - 5, value), True)
        self.assertGreater(accepted, 10)

    def test_one_element_raised(self):
        rng = random.Random(75)
        for n in (1, 2, 4):
            sizes, reads = random_loads(rng, n, 9), random_loads(rng, n, 9)
            for k, c in ((1, 2), (2, 2), (3, 3)):
                rows = table_within(sizes, reads, k, c)
                for b, a, start in itertools.product(range(k + 1), range(c + 1), range(n + 1)):
                    for at, part in enumerate(rows[b][a][start]):
                        if part is None:
                            continue
                        value = with_part(rows, b, a, start, at, part + 1)
                        for bound in (rows[k][c][0][-1], value[k][c][0][-1]):
                            self.assertIs(shows_bound_within(sizes, reads, k, c, bound, value), False)

    def test_none_and_int_exchanged(self):
        rng = random.Random(76)
        sizes, reads = random_loads(rng, 3, 9), random_loads(rng, 3, 9)
        for k, c in ((1, 2), (2, 2), (2, 1)):
            rows = table_within(sizes, reads, k, c)
            for b, a, start in itertools.product(range(k + 1), range(c + 1), range(4)):
                for at, part in enumerate(rows[b][a][start]):
                    for other in (0, -1, -(10**20)) if part is None else (None,):
                        value = with_part(rows, b, a, start, at, other)
                        for bound in (rows[k][c][0][-1], value[k][c][0][-1]):
                            self.assertIs(shows_bound_within(sizes, reads, k, c, bound, value), False)

    def test_tables_of_other_budgets_and_lengths(self):
        for k, c in itertools.product(range(4), repeat=2):
            rows = table_within((5, 1), (1, 1), k, c)
            bound = rows[k][c][0][-1]
            for other in itertools.product(range(4), repeat=2):
                self.assertIs(shows_bound_within((5, 1), (1, 1), *other, bound, rows), other == (k, c))
            for n in (0, 1, 3):
                self.assertIs(shows_bound_within((5,) * n, (1,) * n, k, c, bound, rows), False)
            self.assertIs(shows_bound_within((5, 1), (1, 1), k, c, bound, rows[k][c]), False)
            self.assertIs(shows_bound_within((5, 1), (1, 1), k, c, bound, rows[k]), False)

    def test_tables_of_other_loads(self):
        rng = random.Random(77)
        accepted = 0
        for turn in range(200):
            n = rng.choice((1, 2, 3, 5))
            loads = [random_loads(rng, n, rng.choice((1, 3, 9))) for part in range(4)]
            k, c = rng.choice(((1, 3), (2, 2), (3, 3)))
            rows = table_within(loads[2], loads[3], k, c)
            accepted += self.check(loads[0], loads[1], k, c, rows[k][c][0][-1], rows)
        self.assertGreater(accepted, 5)

    def test_values_of_any_kind(self):
        values = fixed_values() + random_values(300)
        values.extend((value,) for value in fixed_values())
        values.extend(((value,),) for value in fixed_values())
        values.extend((((value,),),) for value in fixed_values())
        values.extend(((((value,),),),) for value in fixed_values())
        for value in values:
            for sizes, reads, k, c in (((), (), 0, 0), ((), (), 1, 1), ((1,), (1,), 0, 0), ((5, 1), (1, 1), 2, 2)):
                for bound in (0, None, 2):
                    before = copy.deepcopy(value)
                    self.check(sizes, reads, k, c, bound, value)
                    self.assertEqual(repr(value), repr(before))

    def test_bounds_of_any_kind(self):
        for sizes, reads, k, c in (((), (), 0, 0), ((1,), (0,), 1, 1), ((1, 1), (1, 1), 1, 1), ((5, 1), (1, 1), 1, 2)):
            rows = table_within(sizes, reads, k, c)
            right = rows[k][c][0][-1]
            bounds = [None, True, False, 0, 1, -1, right, str(right), (right,), [right], {0: right}]
            for bound in bounds + fixed_values() + random_values(200):
                wanted = type(bound) is type(right) and bound == right
                self.assertIs(shows_bound_within(sizes, reads, k, c, bound, rows), wanted, repr(bound))
                for value in (None, (), bound, ((((bound,),),),), rows[:-1]):
                    self.check(sizes, reads, k, c, bound, value)

    def test_a_bool_is_no_bound(self):
        rows = table_within((1,), (0,), 1, 1)
        assert_same(self, rows[1][1], ((0, 1), (0,)))
        self.assertIs(shows_bound_within((1,), (0,), 1, 1, 1, rows), True)
        self.assertIs(shows_bound_within((1,), (0,), 1, 1, True, rows), False)
        for bound in (1, True):
            value = with_part(rows, 1, 1, 0, 1, True)
            self.assertIs(shows_bound_within((1,), (0,), 1, 1, bound, value), False)
        self.assertIs(shows_bound_within((), (), 0, 0, 0, ((((0,),),),)), True)
        self.assertIs(shows_bound_within((), (), 0, 0, False, ((((0,),),),)), False)
        self.assertIs(shows_bound_within((), (), 0, 0, 0, ((((False,),),),)), False)

    def test_bound_below_an_empty_interval(self):
        self.assertIs(shows_bound_within((), (), 0, 0, -3, ((((-3,),),),)), True)
        self.assertIs(shows_bound_within((), (), 0, 0, 1, ((((1,),),),)), False)
        self.assertIs(shows_bound_within((), (), 0, 0, None, ((((None,),),),)), False)
        self.assertIs(shows_bound_within((), (), 0, 0, None, ((((0,),),),)), False)


def with_part(rows, b, a, start, at, part):
    """Tables with another element at one place."""

    def put(value, places):
        if not places:
            return part
        place = places[0]
        return value[:place] + (put(value[place], places[1:]),) + value[place + 1 :]

    return put(rows, (b, a, start, at))


def lowered(rng, value, low):
    """Tables with each element as it was, or lower."""
    if type(value) is tuple:
        return tuple(lowered(rng, part, low) for part in value)
    return None if value is None else value - max(0, rng.randint(-30, low))


if __name__ == "__main__":
    unittest.main()
