import itertools
import random
import unittest

from mergebudget.errors import InvalidIndex, OutsideBudget
from mergebudget.numbering import (
    count_schedules, count_within, index_of, index_within, schedule_at, schedule_within,
)  # fmt: skip
from mergebudget.schedules import all_schedules
from mergebudget.trees import mirror
from tests.budgets import (
    needed_budgets, plain_count_within, plain_lifetime, plain_within, tree_key, walked_counts,
)  # fmt: skip
from tests.samples import (
    CATALAN, assert_refused, assert_same, long_schedules, merges_everything, merges_nothing, plain_is_schedule,
)  # fmt: skip

SMALL_BUDGETS = list(itertools.product(range(9), repeat=2)) + [(0, 60), (60, 0), (1, 60), (60, 1), (60, 60), (3, 60)]


def catalan_numbers(many):
    """The Catalan numbers, each from all pairs of earlier ones."""
    found = [1]
    while len(found) < many:
        found.append(sum(one * other for one, other in zip(found, found[::-1])))
    return found


def successor(schedule):
    """The next schedule in ascending order: one merge more as late as possible, and none behind it."""
    runs_before = [at - sum(schedule[:at]) for at in range(len(schedule))]
    at = max(at for at, merge in enumerate(schedule) if merge < runs_before[at])
    return schedule[:at] + (schedule[at] + 1,) + (0,) * (len(schedule) - at - 1)


def sample_places(rng, many):
    """The first, the last and other indexes below a number."""
    near = [0, 1, 2, many // 3, many // 2, many - 3, many - 2, many - 1]
    return sorted({at for at in near + [rng.randrange(many) for turn in range(4)] if 0 <= at < many})


class AllSchedulesTest(unittest.TestCase):
    def test_short_ones_at_their_positions(self):
        for n in range(8):
            listed = all_schedules(n)
            assert_same(self, count_schedules(n), len(listed))
            for at, schedule in enumerate(listed):
                assert_same(self, index_of(schedule), at)
                assert_same(self, schedule_at(n, at), schedule)

    def test_counts_up_to_sixty_flushes(self):
        self.assertEqual(tuple(catalan_numbers(9)), CATALAN)
        for n, many in enumerate(catalan_numbers(61)):
            assert_same(self, count_schedules(n), many)

    def test_first_and_last(self):
        for n in range(61):
            last = count_schedules(n) - 1
            assert_same(self, schedule_at(n, 0), merges_nothing(n))
            assert_same(self, index_of(merges_nothing(n)), 0)
            assert_same(self, schedule_at(n, last), merges_everything(n))
            assert_same(self, index_of(merges_everything(n)), last)

    def test_long_ones_there_and_back(self):
        rng = random.Random(2)
        for n, many in enumerate(catalan_numbers(61)):
            for at in sample_places(rng, many):
                schedule = schedule_at(n, at)
                self.assertTrue(plain_is_schedule(schedule))
                self.assertEqual(len(schedule), n)
                assert_same(self, index_of(schedule), at)
        for schedule in long_schedules():
            assert_same(self, schedule_at(len(schedule), index_of(schedule)), schedule)

    def test_the_next_schedule_has_the_next_index(self):
        for schedule in long_schedules():
            if schedule != merges_everything(len(schedule)):
                later = successor(schedule)
                self.assertTrue(plain_is_schedule(later))
                self.assertEqual(index_of(later), index_of(schedule) + 1)
                assert_same(self, schedule_at(len(schedule), index_of(schedule) + 1), later)

    def test_index_behind_the_last(self):
        for n, many in enumerate(catalan_numbers(61)):
            for index in (many, many + 1, 2 * many, 10**59, -1):
                assert_refused(self, lambda value: schedule_at(n, value), index, InvalidIndex)


class CountWithinTest(unittest.TestCase):
    def test_short_ones_against_the_listed(self):
        for n in range(8):
            needed = [needed_budgets(schedule) for schedule in all_schedules(n)]
            for k, c in SMALL_BUDGETS:
                wanted = sum(runs <= k and written <= c for runs, written in needed)
                assert_same(self, count_within(n, k, c), wanted)

    def test_long_ones_along_their_states(self):
        for k, c in itertools.product(range(4), repeat=2):
            for n, many in enumerate(walked_counts(60, k, c)):
                assert_same(self, count_within(n, k, c), many)
        for k, c in ((4, 3), (3, 4), (2, 7), (7, 2), (1, 12), (12, 1)):
            counts = walked_counts(30, k, c)
            for n in (5, 12, 13, 29, 30):
                assert_same(self, count_within(n, k, c), counts[n])

    def test_long_ones_by_their_roots(self):
        for n in (1, 13, 30, 59, 60):
            for k, c in itertools.product((0, 1, 2, 4, 5, 8, 12), repeat=2):
                assert_same(self, count_within(n, k, c), plain_count_within(n, k, c))

    def test_exchanged_budgets(self):
        rng = random.Random(4)
        for turn in range(60):
            n, k, c = rng.randint(0, 60), rng.randint(0, 12), rng.randint(0, 60)
            self.assertEqual(count_within(n, k, c), count_within(n, c, k))

    def test_great_budgets_exclude_nothing(self):
        for n, many in enumerate(catalan_numbers(61)):
            assert_same(self, count_within(n, 60, 60), many)
            assert_same(self, count_within(n, n, n), many)
            if n > 1:
                # Just one schedule needs n runs, and just one other n writes.
                assert_same(self, count_within(n, n - 1, n), many - 1)
                assert_same(self, count_within(n, n, n - 1), many - 1)

    def test_budgets_beside_none_and_one(self):
        for n in range(61):
            for other in (0, 1, 30, 60):
                assert_same(self, count_within(n, other, 0), 1 if n == 0 else 0)
                assert_same(self, count_within(n, 0, other), 1 if n == 0 else 0)
                assert_same(self, count_within(n, other, 1), 1 if n <= other else 0)
                assert_same(self, count_within(n, 1, other), 1 if n <= other else 0)

    def test_one_schedule_of_a_lifetime_and_none_longer(self):
        for k, c in itertools.product(range(13), repeat=2):
            life = plain_lifetime(k, c)
            if life <= 60:
                assert_same(self, count_within(life, k, c), 1)
            for n in (life + 1, life + 2, 59, 60):
                if life < n <= 60:
                    assert_same(self, count_within(n, k, c), 0)
            for n in (0, 1, life - 1, 60):
                if 0 <= n <= min(life, 60):
                    self.assertGreater(count_within(n, k, c), 0)


class TreeOrderTest(unittest.TestCase):
    def test_short_ones_at_their_positions(self):
        for n in range(7):
            for k, c in itertools.product(range(8), repeat=2):
                self.check_listed(n, k, c)
        for k, c in ((2, 3), (3, 2), (4, 4), (7, 2), (60, 60), (60, 1), (60, 2), (3, 60), (0, 60)):
            self.check_listed(7, k, c)

    def check_listed(self, n, k, c):
        listed = sorted([one for one in all_schedules(n) if plain_within(one, k, c)], key=tree_key)
        for at, schedule in enumerate(listed):
            assert_same(self, index_within(schedule, k, c), at)
            assert_same(self, schedule_within(n, k, c, at), schedule)
        for index in (len(listed), len(listed) + 1, 10**59, -1):
            assert_refused(self, lambda value: schedule_within(n, k, c, value), index, InvalidIndex)

    def test_order_of_three_flushes(self):
        wanted = ((0, 0, 0), (0, 0, 1), (0, 1, 0), (0, 0, 2), (0, 1, 1))
        self.assertEqual(tuple(schedule_within(3, 60, 60, at) for at in range(5)), wanted)

    def test_long_ones_there_and_back(self):
        rng = random.Random(6)
        budgets = [(2, 9), (9, 2), (3, 4), (4, 3), (5, 5), (12, 12), (12, 3), (6, 11), (60, 1), (1, 60), (60, 60)]
        for k, c in budgets:
            for n in (1, 7, 20, 34, 59, 60):
                if n <= plain_lifetime(k, c):
                    self.check_sampled(rng, n, k, c)

    def check_sampled(self, rng, n, k, c):
        places = sample_places(rng, count_within(n, k, c))
        schedules = [schedule_within(n, k, c, at) for at in places]
        for at, schedule in zip(places, schedules):
            self.assertTrue(plain_is_schedule(schedule))
            self.assertEqual(len(schedule), n)
            self.assertTrue(plain_within(schedule, k, c))
            assert_same(self, index_within(schedule, k, c), at)
        for one, later in zip(schedules, schedules[1:]):
            self.assertLess(tree_key(one), tree_key(later))

    def test_budgets_of_sixty_beside_none_and_one(self):
        for n in (0, 1, 2, 30, 59, 60):
            assert_same(self, schedule_within(n, 60, 1, 0), merges_nothing(n))
            assert_same(self, index_within(merges_nothing(n), 60, 1), 0)
            assert_same(self, schedule_within(n, 1, 60, 0), merges_everything(n))
            assert_same(self, index_within(merges_everything(n), 1, 60), 0)
        for k, c in ((60, 0), (0, 60), (0, 0), (0, 1)):
            assert_same(self, schedule_within(0, k, c, 0), ())
            assert_same(self, index_within((), k, c), 0)
            assert_refused(self, lambda value: schedule_within(1, k, c, value), 0, InvalidIndex)
            assert_refused(self, lambda value: schedule_within(60, k, c, value), 0, InvalidIndex)

    def test_long_schedules_within_the_budgets_that_they_need(self):
        for schedule in long_schedules()[::3]:
            k, c = needed_budgets(schedule)
            index = index_within(schedule, k, c)
            assert_same(self, schedule_within(len(schedule), k, c, index), schedule)
            self.assertLess(index, count_within(len(schedule), k, c))
            index = index_within(schedule, 60, 60)
            assert_same(self, schedule_within(len(schedule), 60, 60, index), schedule)

    def test_long_schedules_outside(self):
        for schedule in long_schedules():
            runs, written = needed_budgets(schedule)
            for k, c in ((runs - 1, written), (runs, written - 1), (runs - 1, 60), (60, written - 1), (0, 0)):
                if schedule and k >= 0 and c >= 0:
                    assert_refused(self, lambda value: index_within(value, k, c), schedule, OutsideBudget)

    def test_short_schedules_outside(self):
        for schedule in [one for n in range(7) for one in all_schedules(n)]:
            for k, c in itertools.product(range(7), repeat=2):
                if not plain_within(schedule, k, c):
                    assert_refused(self, lambda value: index_within(value, k, c), schedule, OutsideBudget)

    def test_only_schedule_of_a_lifetime(self):
        for k, c in itertools.product(range(1, 13), repeat=2):
            life = plain_lifetime(k, c)
            if life > 60:
                continue
            only = schedule_within(life, k, c, 0)
            self.assertEqual(needed_budgets(only), (k, c))
            assert_same(self, index_within(only, k, c), 0)
            assert_refused(self, lambda value: schedule_within(life, k, c, value), 1, InvalidIndex)
            if life < 60:
                assert_refused(self, lambda value: schedule_within(life + 1, k, c, value), 0, InvalidIndex)
            assert_same(self, schedule_within(life, c, k, 0), mirror(only))


if __name__ == "__main__":
    unittest.main()
