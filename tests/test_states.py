import copy
import itertools
import random
import unittest

from mergebudget.errors import InvalidMerge, InvalidSchedule
from mergebudget.schedules import all_schedules
from mergebudget.states import best_merge, is_state, lifetime, next_state, remaining, state_of
from tests.budgets import (
    all_states, great_states, plain_after, plain_afters, plain_best_merges, plain_is_state, plain_lifetime,
    plain_remaining, plain_state,
)  # fmt: skip
from tests.samples import (
    assert_bool, assert_refused, assert_same, changed, fixed_values, long_schedules, merges_at_the_end,
    merges_everything, merges_nothing, random_values, wrong_schedules,
)  # fmt: skip

SMALL_BUDGETS = list(itertools.product(range(4), repeat=2)) + [(4, 4), (5, 3), (3, 5), (2, 6), (6, 2), (7, 1), (1, 7)]


def small_states():
    """All states within small budgets, with these budgets."""
    return [(state, k, c) for k, c in SMALL_BUDGETS for state in all_states(k, c)]


class IsStateTest(unittest.TestCase):
    def test_values_of_any_kind(self):
        values = fixed_values() + random_values(1000)
        for value in values:
            before = copy.deepcopy(value)
            for k, c in ((0, 0), (1, 1), (2, 2), (4, 3), (60, 60)):
                assert_bool(self, is_state(value, k, c), plain_is_state(value, k, c), value)
            self.assertEqual(repr(value), repr(before))

    def test_fixed_values_are_none(self):
        for value in fixed_values():
            self.assertIs(is_state(value, 60, 60), False, repr(value))

    def test_all_short_tuples(self):
        for n in range(5):
            for value in itertools.product(range(-1, 4), repeat=n):
                for k, c in itertools.product(range(5), range(4)):
                    assert_bool(self, is_state(value, k, c), plain_is_state(value, k, c), value)

    def test_one_thing_changed(self):
        rng = random.Random(8)
        for state, k, c in great_states() + small_states()[::7]:
            self.assertIs(is_state(state, k, c), True)
            for value in changed(rng, state, (0, 1, c, c + 1, 60, 61)):
                assert_bool(self, is_state(value, k, c), plain_is_state(value, k, c), value)

    def test_edges_of_the_budgets(self):
        self.assertIs(is_state((60,) * 60, 60, 60), True)
        self.assertIs(is_state((60,) * 61, 60, 60), False)
        self.assertIs(is_state((60,) * 59 + (61,), 60, 60), False)
        self.assertIs(is_state((60,) * 60, 60, 59), False)
        self.assertIs(is_state((60,) * 60, 59, 60), False)
        self.assertIs(is_state((0,), 1, 1), False)
        for k, c in itertools.product((0, 1, 60), repeat=2):
            self.assertIs(is_state((), k, c), True)
            self.assertIs(is_state([], k, c), False)

    def test_bools_are_no_counts(self):
        self.assertIs(is_state((1, 1), 2, 2), True)
        self.assertIs(is_state((True, 1), 2, 2), False)
        self.assertIs(is_state((1, True), 2, 2), False)


class StateOfTest(unittest.TestCase):
    def test_against_the_writes_of_each_flush(self):
        for schedule in [one for n in range(8) for one in all_schedules(n)] + long_schedules():
            assert_same(self, state_of(schedule), plain_state(schedule))

    def test_extreme_schedules(self):
        assert_same(self, state_of(()), ())
        assert_same(self, state_of(merges_nothing(60)), (1,) * 60)
        assert_same(self, state_of(merges_everything(60)), (60,))
        assert_same(self, state_of(merges_at_the_end(60)), (2,))

    def test_each_flush_leads_to_the_next_state(self):
        for schedule in long_schedules():
            if schedule:
                before = state_of(schedule[:-1])
                assert_same(self, next_state(before, schedule[-1], 60, 60), state_of(schedule))

    def test_refused(self):
        for value in wrong_schedules():
            assert_refused(self, state_of, value, InvalidSchedule)


class NextStateTest(unittest.TestCase):
    def check_every_merge(self, state, k, c):
        for merge in range(len(state) + 2):
            after = plain_after(state, merge) if merge <= len(state) else None
            if plain_is_state(after, k, c):
                assert_same(self, next_state(state, merge, k, c), after)
            else:
                assert_refused(self, lambda value: next_state(state, value, k, c), merge, InvalidMerge)

    def test_every_merge_of_small_states(self):
        for state, k, c in small_states():
            self.check_every_merge(state, k, c)

    def test_every_merge_of_great_states(self):
        for state, k, c in great_states():
            self.check_every_merge(state, k, c)

    def test_states_that_fill_the_budgets(self):
        assert_same(self, next_state((), 0, 1, 1), (1,))
        assert_refused(self, lambda value: next_state((), value, 0, 1), 0, InvalidMerge)
        assert_refused(self, lambda value: next_state((), value, 1, 0), 0, InvalidMerge)
        assert_same(self, next_state((59,) * 60, 60, 60, 60), (60,))
        assert_same(self, next_state((60,) * 59, 0, 60, 60), (60,) * 59 + (1,))
        assert_refused(self, lambda value: next_state((60,) * 60, value, 60, 60), 0, InvalidMerge)
        assert_refused(self, lambda value: next_state((60,) * 60, value, 60, 60), 60, InvalidMerge)

    def test_merges_of_any_kind(self):
        for merge in fixed_values() + random_values(200):
            if not (type(merge) is int and 0 <= merge <= 2):
                assert_refused(self, lambda value: next_state((1, 1), value, 5, 5), merge, InvalidMerge)


class LifetimeTest(unittest.TestCase):
    def test_up_to_sixty_against_the_triangle(self):
        for k, c in itertools.product(range(61), repeat=2):
            assert_same(self, lifetime(k, c), plain_lifetime(k, c))

    def test_longest_schedule_within_small_budgets(self):
        for k, c in SMALL_BUDGETS:
            assert_same(self, lifetime(k, c), plain_remaining((), k, c))


class RemainingTest(unittest.TestCase):
    def test_against_a_search(self):
        for state, k, c in small_states():
            assert_same(self, remaining(state, k, c), plain_remaining(state, k, c))

    def test_best_merge_against_a_search(self):
        for state, k, c in small_states():
            merges = plain_best_merges(state, k, c)
            if plain_remaining(state, k, c) == 0:
                self.assertIs(best_merge(state, k, c), None)
            else:
                self.assertEqual(len(merges), 1)
                assert_same(self, best_merge(state, k, c), merges[0])

    def test_great_budgets(self):
        for state, k, c in great_states():
            self.check_all_merges(state, k, c)
        self.check_all_merges((60,) * 59, 60, 60)
        self.check_all_merges((60,) * 60, 60, 60)
        self.check_all_merges(tuple(range(60, 0, -1)), 60, 60)
        self.check_all_merges((1,) * 60, 60, 60)

    def check_all_merges(self, state, k, c):
        """Every merge costs at least one flush, exactly one costs just one, and this is best_merge."""
        left = remaining(state, k, c)
        best = best_merge(state, k, c)
        if not plain_afters(state, k, c):
            assert_same(self, (left, best), (0, None))
            return
        self.assertGreater(left, 0)
        cheap = []
        for merge in range(len(state) + 1):
            after = plain_after(state, merge)
            if plain_is_state(after, k, c):
                self.assertLess(remaining(after, k, c), left)
                if remaining(after, k, c) == left - 1:
                    cheap.append(merge)
        assert_same(self, cheap, [best])

    def test_empty_stack_has_the_lifetime(self):
        for k, c in itertools.product(range(61), repeat=2):
            assert_same(self, remaining((), k, c), plain_lifetime(k, c))
            assert_same(self, best_merge((), k, c), 0 if k and c else None)

    def test_states_at_their_end(self):
        for state, k, c in (((60,) * 60, 60, 60), ((60,), 1, 60), ((1,), 1, 1), ((1, 2), 2, 2), ((1,) * 60, 60, 1)):
            assert_same(self, remaining(state, k, c), 0)
            self.assertIs(best_merge(state, k, c), None)

    def test_following_best_merge_lives_a_lifetime(self):
        for k, c in ((1, 1), (2, 2), (3, 3), (4, 3), (3, 4), (5, 5), (60, 1), (1, 60), (60, 2), (2, 30), (10, 3)):
            state = ()
            flushes = 0
            while (merge := best_merge(state, k, c)) is not None:
                state = next_state(state, merge, k, c)
                flushes += 1
                self.assertEqual(remaining(state, k, c), plain_lifetime(k, c) - flushes)
            self.assertEqual(flushes, plain_lifetime(k, c))


if __name__ == "__main__":
    unittest.main()
