import copy
import itertools
import random
import unittest

from mergebudget.errors import InvalidCount, InvalidSchedule
from mergebudget.schedules import all_schedules, is_schedule, run_counts, stacks, writes
from tests.samples import (
    CATALAN, assert_bool, assert_refused, assert_same, changed, fixed_values, long_schedules, merges_at_the_end,
    merges_every_second, merges_everything, merges_nothing, plain_is_schedule, random_values, simulate,
    wrong_schedules,
)  # fmt: skip


class IsScheduleTest(unittest.TestCase):
    def test_values_of_any_kind(self):
        for value in fixed_values() + random_values(2000):
            before = copy.deepcopy(value)
            assert_bool(self, is_schedule(value), plain_is_schedule(value), value)
            self.assertEqual(repr(value), repr(before))

    def test_fixed_values_are_none(self):
        for value in fixed_values():
            self.assertIs(is_schedule(value), False, repr(value))

    def test_all_short_tuples(self):
        for n in range(5):
            for value in itertools.product(range(-1, n + 1), repeat=n):
                assert_bool(self, is_schedule(value), plain_is_schedule(value), value)

    def test_long_schedules_are_schedules(self):
        for schedule in long_schedules():
            self.assertIs(is_schedule(schedule), True, repr(schedule))

    def test_sixty_one_flushes_are_too_many(self):
        for made in (merges_nothing, merges_everything, merges_every_second, merges_at_the_end):
            self.assertIs(is_schedule(made(60)), True)
            self.assertIs(is_schedule(made(61)), False)
            self.assertIs(is_schedule(made(62)), False)

    def test_one_thing_changed(self):
        rng = random.Random(11)
        for schedule in long_schedules():
            for value in changed(rng, schedule, (0, 1, 2, 59, 60)):
                assert_bool(self, is_schedule(value), plain_is_schedule(value), value)

    def test_merge_is_limited_by_the_runs_directly_before(self):
        self.assertIs(is_schedule((0, 0, 0, 3)), True)
        self.assertIs(is_schedule((0, 0, 0, 4)), False)
        self.assertIs(is_schedule((0, 0, 2, 1)), True)
        self.assertIs(is_schedule((0, 0, 2, 2)), False)

    def test_bools_and_lists_do_not_count(self):
        for value in ((False,), (0, True), (0, False), [0], [0, 1], [], (0, [1])):
            self.assertIs(is_schedule(value), False, repr(value))
        self.assertIs(is_schedule(()), True)

    def test_argument_by_name(self):
        self.assertIs(is_schedule(value=(0, 1)), True)
        self.assertIs(is_schedule(value=(0, 2)), False)


class SimulationTest(unittest.TestCase):
    def samples(self):
        short = [schedule for n in range(7) for schedule in all_schedules(n)]
        return short + long_schedules()

    def test_stacks(self):
        for schedule in self.samples():
            history, written = simulate(schedule)
            wanted = tuple(tuple((run[0], run[-1] + 1) for run in runs) for runs in history)
            assert_same(self, stacks(schedule), wanted)

    def test_runs_are_adjacent_and_cover_all_flushes(self):
        for schedule in self.samples():
            result = stacks(schedule)
            self.assertEqual(len(result), len(schedule))
            for flush, stack in enumerate(result):
                at = 0
                for start, stop in stack:
                    self.assertEqual(start, at)
                    self.assertLess(start, stop)
                    at = stop
                self.assertEqual(at, flush + 1)

    def test_writes(self):
        for schedule in self.samples():
            history, written = simulate(schedule)
            assert_same(self, writes(schedule), tuple(written))

    def test_run_counts(self):
        for schedule in self.samples():
            history, written = simulate(schedule)
            assert_same(self, run_counts(schedule), tuple(len(runs) for runs in history))

    def test_extreme_schedules(self):
        assert_same(self, writes(merges_nothing(60)), (1,) * 60)
        assert_same(self, run_counts(merges_nothing(60)), tuple(range(1, 61)))
        assert_same(self, writes(merges_everything(60)), tuple(range(60, 0, -1)))
        assert_same(self, run_counts(merges_everything(60)), (1,) * 60)
        assert_same(self, writes(merges_at_the_end(60)), (2,) * 59 + (1,))
        assert_same(self, run_counts(merges_every_second(60)), (1, 1) + (2, 1) * 29)
        assert_same(self, stacks(merges_every_second(4)), (((0, 1),), ((0, 2),), ((0, 2), (2, 3)), ((0, 4),)))

    def test_no_flushes(self):
        for function in (stacks, writes, run_counts):
            assert_same(self, function(()), ())

    def test_argument_by_name_and_same_result_again(self):
        for function in (stacks, writes, run_counts):
            assert_same(self, function(schedule=(0, 0, 2)), function((0, 0, 2)))
            assert_same(self, function((0, 0, 1, 0)), function((0, 0, 1, 0)))


class WrongSchedulesTest(unittest.TestCase):
    def test_refused(self):
        values = wrong_schedules()
        self.assertGreater(len(values), 5000)
        for function in (stacks, writes, run_counts):
            for value in values:
                assert_refused(self, function, value, InvalidSchedule)

    def test_limit_of_flushes(self):
        for function in (stacks, writes, run_counts):
            for made in (merges_nothing, merges_everything, merges_every_second, merges_at_the_end):
                self.assertEqual(len(function(made(60))), 60)
                assert_refused(self, function, made(61), InvalidSchedule)

    def test_refused_by_name(self):
        for function in (stacks, writes, run_counts):
            value = [0]
            with self.assertRaises(InvalidSchedule) as caught:
                function(schedule=value)
            self.assertIs(caught.exception.value, value)


class AllSchedulesTest(unittest.TestCase):
    def test_short_ones_against_all_tuples(self):
        for n in range(7):
            wanted = tuple(value for value in itertools.product(range(n), repeat=n) if plain_is_schedule(value))
            assert_same(self, all_schedules(n), wanted)

    def test_none_and_one_flush(self):
        assert_same(self, all_schedules(0), ((),))
        assert_same(self, all_schedules(1), ((0,),))

    def test_complete_and_ascending(self):
        for n in range(9):
            found = all_schedules(n)
            self.assertIs(type(found), tuple)
            self.assertEqual(len(found), CATALAN[n])
            self.assertTrue(all(plain_is_schedule(schedule) and len(schedule) == n for schedule in found))
            self.assertTrue(all(one < next_one for one, next_one in zip(found, found[1:])))
        self.assertEqual(len(all_schedules(8)), 1430)

    def test_argument_by_name(self):
        assert_same(self, all_schedules(n=2), ((0, 0), (0, 1)))

    def test_refused(self):
        more = [9, 10, 60, -1, True, False, "3", None, (3,), [3], {}, {3: 3}, "", (), [], (0,), "0"]
        for value in fixed_values() + random_values(300) + more:
            if type(value) is int and 0 <= value <= 8:
                continue
            assert_refused(self, all_schedules, value, InvalidCount)


if __name__ == "__main__":
    unittest.main()
