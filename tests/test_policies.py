import itertools
import math
import random
import unittest

from mergebudget.numbering import count_within, schedule_within
from mergebudget.policies import least_writes, policy_merge, policy_runs, policy_schedule
from mergebudget.states import best_merge, lifetime, next_state
from tests.budgets import needed_budgets, plain_after, plain_best_merges, plain_lifetime
from tests.samples import assert_same, plain_is_schedule, simulate

FAR = 10**18


def lifetimes(k):
    """The pairs (c, C(k + c, k) - 1) up to FAR; for one and two runs only some of them."""
    found = []
    for c in itertools.chain(range(200), (10**6, 10**9 - 1, 10**9, 1414213561, FAR - 1, FAR)):
        life = math.comb(k + c, k) - 1
        if life <= FAR:
            found.append((c, life))
    return found


def representation(n, k):
    """The terms of n = C(a_k, k) + .. + C(a_1, 1), each the greatest that fits, by halving an interval of tops."""
    tops = []
    for term in range(k, 0, -1):
        low, high = term - 1, term + n
        while high - low > 1:
            middle = (low + high) // 2
            low, high = (middle, high) if math.comb(middle, term) <= n else (low, middle)
        tops.append(low)
        n -= math.comb(low, term)
    return tops


def positions(rng, k):
    """Numbers of flushes near and far, those around lifetimes among them."""
    near = list(range(30)) + [FAR - 2, FAR - 1, FAR]
    around = [life + step for c, life in rng.sample(lifetimes(k), 8 if k < 50 else 5) for step in (-1, 0, 1)]
    drawn = [rng.randrange(10 ** rng.randint(1, 18)) for turn in range(12)]
    return sorted({n for n in near + around + drawn if 0 <= n <= FAR})


def only_schedule(k, c):
    """The only schedule of a lifetime, from a search that finds one merge at each state."""
    state, merges = (), []
    while found := plain_best_merges(state, k, c):
        merges.extend(found)
        state = plain_after(state, found[0])
    return tuple(merges)


class LeastWritesTest(unittest.TestCase):
    def test_short_ones_against_lifetimes(self):
        for k in range(1, 61):
            for n in range(200):
                c = 0
                while n > math.comb(k + c, k) - 1:
                    c += 1
                assert_same(self, least_writes(n, k), c)

    def test_lifetimes_and_their_neighbours(self):
        for k in range(1, 61):
            for c, life in lifetimes(k):
                assert_same(self, least_writes(life, k), c)
                if life + 1 <= FAR:
                    assert_same(self, least_writes(life + 1, k), c + 1)
                if c > 1 and math.comb(k + c - 1, k) - 1 < life - 1:
                    assert_same(self, least_writes(life - 1, k), c)

    def test_far_numbers(self):
        rng = random.Random(10)
        for k in range(1, 61):
            for n in positions(rng, k):
                c = least_writes(n, k)
                self.assertIs(type(c), int)
                self.assertLess(n, math.comb(k + c, k))
                if n:
                    self.assertGreaterEqual(n, math.comb(k + c - 1, k))

    def test_one_run_is_written_each_time(self):
        for n in (0, 1, 2, 60, 61, 10**9, FAR - 1, FAR):
            assert_same(self, least_writes(n, 1), n)

    def test_no_schedule_writes_less(self):
        for k in range(1, 13):
            for n in range(1, 61):
                c = least_writes(n, k)
                self.assertGreater(count_within(n, k, c), 0)
                self.assertEqual(count_within(n, k, c - 1), 0)


class PolicyRunsTest(unittest.TestCase):
    def test_terms_of_the_representation(self):
        rng = random.Random(12)
        for k in range(1, 61):
            for n in positions(rng, k):
                tops = representation(n, k)
                self.assertTrue(all(top > lower >= 0 for top, lower in zip(tops, tops[1:])))
                terms = [math.comb(top, k - at) for at, top in enumerate(tops)]
                runs = policy_runs(k, n)
                assert_same(self, runs, tuple(term for term in terms if term > 0))
                self.assertEqual(sum(runs), n)
                self.assertLessEqual(len(runs), k)

    def test_runs_that_the_schedule_leaves(self):
        for k in (1, 2, 3, 4, 7, 30, 59, 60):
            for n in range(61):
                history, written = simulate(policy_schedule(k, n))
                wanted = tuple(len(run) for run in history[-1]) if history else ()
                assert_same(self, policy_runs(k, n), wanted)

    def test_known_runs(self):
        assert_same(self, policy_runs(1, FAR), (FAR,))
        assert_same(self, policy_runs(60, 60), (1,) * 60)
        assert_same(self, policy_runs(60, 61), (61,))
        assert_same(self, policy_runs(60, 0), ())


class PolicyScheduleTest(unittest.TestCase):
    def test_only_schedules_of_full_length(self):
        for k, c in itertools.product(range(1, 6), repeat=2):
            only = only_schedule(k, c)
            self.assertEqual(len(only), plain_lifetime(k, c))
            assert_same(self, tuple(policy_merge(k, i) for i in range(len(only))), only)
            if len(only) <= 60:
                assert_same(self, policy_schedule(k, len(only)), only)
                assert_same(self, schedule_within(len(only), k, c, 0), only)

    def test_begins_as_each_longer_one(self):
        for k in (1, 2, 3, 5, 12, 59, 60):
            whole = policy_schedule(k, 60)
            self.assertTrue(plain_is_schedule(whole))
            assert_same(self, whole, tuple(policy_merge(k, i) for i in range(60)))
            for n in range(60):
                assert_same(self, policy_schedule(k, n), whole[:n])

    def test_budgets_that_it_needs(self):
        for k in range(1, 61):
            for n in (1, 2, 3, 10, 35, 59, 60):
                runs, written = needed_budgets(policy_schedule(k, n))
                self.assertLessEqual(runs, k)
                self.assertEqual(written, least_writes(n, k))

    def test_one_run_merges_always(self):
        assert_same(self, policy_schedule(1, 60), (0,) + (1,) * 59)
        assert_same(self, policy_schedule(60, 60), (0,) * 60)
        assert_same(self, policy_merge(60, 60), 60)
        assert_same(self, policy_merge(1, FAR), 1)


class PolicyMergeTest(unittest.TestCase):
    def test_merged_lengths_and_one_make_the_new_last_length(self):
        rng = random.Random(14)
        for k in range(1, 61):
            for i in positions(rng, k):
                merge = policy_merge(k, i)
                self.assertIs(type(merge), int)
                before = policy_runs(k, i)
                self.assertTrue(0 <= merge <= len(before))
                kept = len(before) - merge
                after = before[:kept] + (sum(before[kept:]) + 1,)
                self.assertLessEqual(len(after), k)
                if i < FAR:
                    assert_same(self, policy_runs(k, i + 1), after)
                else:
                    terms = [math.comb(top, k - at) for at, top in enumerate(representation(i + 1, k))]
                    self.assertEqual(after, tuple(term for term in terms if term > 0))

    def test_behind_a_lifetime_all_runs_are_merged(self):
        for k in range(1, 61):
            for c, life in lifetimes(k):
                assert_same(self, policy_merge(k, life), len(policy_runs(k, life)))

    def test_flush_by_flush_as_best_merge(self):
        for k in (1, 2, 3, 4, 5, 8, 20, 59, 60):
            for c in (1, 2, 3, 4, 10, 60):
                state = ()
                for i in range(min(lifetime(k, c), 150)):
                    merge = best_merge(state, k, c)
                    assert_same(self, policy_merge(k, i), merge)
                    state = next_state(state, merge, k, c)
                    self.assertEqual(max(state), least_writes(i + 1, k))
                    self.assertLessEqual(len(state), k)


if __name__ == "__main__":
    unittest.main()
