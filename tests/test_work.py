import random
import unittest

from mergebudget.errors import InvalidReads, InvalidSchedule, InvalidSizes
from mergebudget.schedules import all_schedules
from mergebudget.trees import mirror
from mergebudget.work import read_work, work, write_work
from tests.loads import (
    MOST_LOAD, changed_loads, load_pairs, plain_are_loads, plain_read_work, plain_work, plain_write_work, random_loads,
    shaped_loads,
)  # fmt: skip
from tests.samples import (
    assert_refused, assert_same, fixed_values, long_schedules, merges_everything, merges_nothing, random_values,
    wrong_schedules,
)  # fmt: skip


class CountingTest(unittest.TestCase):
    def check(self, schedule, sizes, reads):
        assert_same(self, write_work(schedule, sizes), plain_write_work(schedule, sizes))
        assert_same(self, read_work(schedule, reads), plain_read_work(schedule, reads))
        assert_same(self, work(schedule, sizes, reads), plain_work(schedule, sizes, reads))

    def test_all_short_schedules(self):
        for n in range(6):
            for schedule in all_schedules(n):
                for sizes, reads in load_pairs(n, 1):
                    self.check(schedule, sizes, reads)

    def test_long_schedules(self):
        rng = random.Random(2)
        for schedule in long_schedules():
            n = len(schedule)
            for most in (0, 1, 7, MOST_LOAD):
                self.check(schedule, random_loads(rng, n, most), random_loads(rng, n, most))
            self.check(schedule, rng.choice(shaped_loads(n)), rng.choice(shaped_loads(n)))

    def test_one_load_at_a_time(self):
        for schedule in all_schedules(5) + (merges_nothing(60), merges_everything(60)):
            n = len(schedule)
            zero = (0,) * n
            for flush in range(n):
                one = (0,) * flush + (MOST_LOAD,) + (0,) * (n - flush - 1)
                self.check(schedule, one, zero)
                self.check(schedule, zero, one)

    def test_known_by_hand(self):
        for n in (1, 2, 10, 60):
            for schedule, wanted in ((merges_nothing(n), n), (merges_everything(n), n * (n + 1) // 2)):
                assert_same(self, write_work(schedule, (MOST_LOAD,) * n), wanted * MOST_LOAD)
            for schedule, wanted in ((merges_nothing(n), n * (n + 1) // 2), (merges_everything(n), n)):
                assert_same(self, read_work(schedule, (MOST_LOAD,) * n), wanted * MOST_LOAD)
        assert_same(self, (write_work((), ()), read_work((), ()), work((), (), ())), (0, 0, 0))
        assert_same(self, work((0, 0, 2), (1, 10, 100), (1000, 10000, 100000)), 2 + 20 + 100 + 1000 + 20000 + 100000)

    def test_mirrored_schedule_with_loads_reversed_and_exchanged(self):
        rng = random.Random(3)
        short = [schedule for n in range(6) for schedule in all_schedules(n)]
        for schedule in short + long_schedules():
            n = len(schedule)
            sizes, reads = random_loads(rng, n, MOST_LOAD), random_loads(rng, n, rng.choice((3, MOST_LOAD)))
            other = mirror(schedule)
            assert_same(self, work(other, reads[::-1], sizes[::-1]), work(schedule, sizes, reads))
            assert_same(self, write_work(other, reads[::-1]), read_work(schedule, reads))
            assert_same(self, read_work(other, sizes[::-1]), write_work(schedule, sizes))


class WrongTest(unittest.TestCase):
    def test_schedules(self):
        for schedule in wrong_schedules()[::7]:
            for loads in ((), (1,), None):
                assert_refused(self, lambda value: write_work(value, loads), schedule, InvalidSchedule)
                assert_refused(self, lambda value: read_work(value, loads), schedule, InvalidSchedule)
            assert_refused(self, lambda value: work(value, (1,), None), schedule, InvalidSchedule)

    def test_loads(self):
        for schedule in ((), (0,), (0, 0, 2), merges_nothing(60)):
            n = len(schedule)
            right = (1,) * n
            values = [(1,) * (n + 1), (1,) * (n - 1) if n else (0,), (1,) * 61, (1,) * 200]
            for loads in shaped_loads(n)[:6]:
                values.extend(changed_loads(loads))
            values.extend(fixed_values() + random_values(100))
            for value in [value for value in values if not plain_are_loads(value, n, n)]:
                assert_refused(self, lambda sizes: write_work(schedule, sizes), value, InvalidSizes)
                assert_refused(self, lambda sizes: work(schedule, sizes, right), value, InvalidSizes)
                assert_refused(self, lambda sizes: work(schedule, sizes, None), value, InvalidSizes)
                assert_refused(self, lambda reads: read_work(schedule, reads), value, InvalidReads)
                assert_refused(self, lambda reads: work(schedule, right, reads), value, InvalidReads)

    def test_greatest_loads_are_right(self):
        for n in (1, 60):
            loads = (MOST_LOAD,) * n
            assert_same(self, work(merges_nothing(n), loads, loads), MOST_LOAD * (n + n * (n + 1) // 2))


if __name__ == "__main__":
    unittest.main()
