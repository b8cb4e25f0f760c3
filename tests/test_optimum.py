import itertools
import random
import unittest

from mergebudget.optimum import least_roots, least_work
from mergebudget.schedules import all_schedules
from mergebudget.tables import table
from mergebudget.trees import schedule_of, tree_of
from mergebudget.work import work
from tests.budgets import tree_key
from tests.loads import MOST_LOAD, Trial, load_pairs, plain_work, random_loads, shaped_loads, small_pairs
from tests.samples import assert_same, merges_everything, merges_nothing, plain_is_schedule


def great_pairs():
    """Loads of 59 and 60 flushes, from zero to the greatest."""
    rng = random.Random(31)
    for n in (59, 60):
        yield (1,) * n, (1,) * n
        yield (MOST_LOAD,) * n, (MOST_LOAD,) * n
        yield (0,) * n, (0,) * n
        for most in (1, 9, MOST_LOAD):
            yield random_loads(rng, n, most), random_loads(rng, n, most)
        yield random_loads(rng, n, MOST_LOAD), random_loads(rng, n, 10)
        yield random_loads(rng, n, 10), random_loads(rng, n, MOST_LOAD)
        yield tuple(range(n)), tuple(range(n, 0, -1))


def middle_pairs():
    for n in (7, 8, 13, 20):
        yield from small_pairs(n, n)


def brief_pairs(most):
    for n in range(most + 1):
        yield from load_pairs(n, n + 40)


class ListedTest(unittest.TestCase):
    """Against all schedules of up to six flushes, each simulated."""

    def test_least_work_and_its_schedule(self):
        for sizes, reads in brief_pairs(6):
            works = {schedule: plain_work(schedule, sizes, reads) for schedule in all_schedules(len(sizes))}
            least = min(works.values())
            best = [schedule for schedule in works if works[schedule] == least]
            # The smallest roots, from the top down, are the first of the best in tree order.
            assert_same(self, least_work(sizes, reads), (least, min(best, key=tree_key)))

    def test_roots_and_table_of_every_interval(self):
        for sizes, reads in brief_pairs(5):
            n = len(sizes)
            roots, rows = least_roots(sizes, reads), table(sizes, reads)
            self.assertEqual([len(row) for row in roots], list(range(n, 0, -1)))
            self.assertEqual([len(row) for row in rows], list(range(n + 1, 0, -1)))
            for start, stop in itertools.combinations(range(n + 1), 2):
                part = all_schedules(stop - start)
                works = [plain_work(schedule, sizes[start:stop], reads[start:stop]) for schedule in part]
                least = min(works)
                best = [tree_key(schedule)[0] for schedule, found in zip(part, works) if found == least]
                assert_same(self, roots[start][stop - start - 1], start + min(best))
                assert_same(self, rows[start][stop - start], least)


class TrialTest(unittest.TestCase):
    """Against a trial of every root of every interval."""

    def check(self, sizes, reads):
        trial = Trial(sizes, reads)
        wanted = (trial.best(0, len(sizes), None, None)[0], schedule_of(trial.tree()))
        assert_same(self, least_work(sizes, reads), wanted)
        assert_same(self, least_roots(sizes, reads), trial.roots())
        assert_same(self, table(sizes, reads), trial.table())

    def test_short_ones(self):
        for sizes, reads in brief_pairs(7):
            self.check(sizes, reads)

    def test_middle_ones(self):
        for sizes, reads in middle_pairs():
            self.check(sizes, reads)

    def test_sixty_flushes(self):
        for sizes, reads in great_pairs():
            self.check(sizes, reads)

    def test_every_length(self):
        rng = random.Random(33)
        for n in range(0, 61, 3):
            self.check(random_loads(rng, n, 4), random_loads(rng, n, 4))

    def test_all_small_loads(self):
        for n in range(4):
            for sizes in itertools.product(range(3), repeat=n):
                for reads in itertools.product(range(3), repeat=n):
                    self.check(sizes, reads)


class ByHandTest(unittest.TestCase):
    def check_roots(self, sizes, reads, wanted):
        """The root of each interval is what a plain rule says."""
        n = len(sizes)
        rows = tuple(tuple(wanted(start, stop) for stop in range(start + 1, n + 1)) for start in range(n))
        assert_same(self, least_roots(sizes, reads), rows)

    def test_no_flush(self):
        assert_same(self, least_work((), ()), (0, ()))
        assert_same(self, least_roots((), ()), ())

    def test_one_flush(self):
        for size, many in ((0, 0), (5, 0), (0, 5), (3, 4), (MOST_LOAD, MOST_LOAD)):
            assert_same(self, least_work((size,), (many,)), (size + many, (0,)))
            assert_same(self, least_roots((size,), (many,)), ((0,),))

    def test_no_reads(self):
        for n in (1, 2, 3, 10, 60):
            for sizes in shaped_loads(n):
                assert_same(self, least_work(sizes, (0,) * n), (sum(sizes), merges_nothing(n)))
                self.check_roots(sizes, (0,) * n, lambda start, stop: start)

    def test_no_sizes(self):
        for n in (1, 2, 3, 10, 60):
            for reads in ((1,) * n, (MOST_LOAD,) * n, tuple(range(1, n + 1))):
                assert_same(self, least_work((0,) * n, reads), (sum(reads), merges_everything(n)))
                self.check_roots((0,) * n, reads, lambda start, stop: stop - 1)
            for reads in shaped_loads(n):
                found, schedule = least_work((0,) * n, reads)
                assert_same(self, found, sum(reads))

    def test_all_zero(self):
        for n in (1, 2, 3, 10, 60):
            assert_same(self, least_work((0,) * n, (0,) * n), (0, merges_nothing(n)))
            self.check_roots((0,) * n, (0,) * n, lambda start, stop: start)

    def test_only_the_first_has_a_size_and_only_the_last_has_reads(self):
        for n in (2, 3, 10, 60):
            for size, many in ((1, 1), (5, 3), (3, 5), (MOST_LOAD, 1), (1, MOST_LOAD), (MOST_LOAD, MOST_LOAD)):
                sizes = (size,) + (0,) * (n - 1)
                reads = (0,) * (n - 1) + (many,)
                found, schedule = least_work(sizes, reads)
                assert_same(self, found, min(size + 2 * many, 2 * size + many))
                # Either the first run stays as it is, or the last flush merges all; if both are as good, the first.
                root = 0 if size >= many else n - 1
                self.assertEqual(tree_of(schedule).index(-1), root)
                self.assertEqual(least_roots(sizes, reads)[0][-1], root)

    def test_only_the_first_has_a_size(self):
        for n in (1, 2, 3, 10, 60):
            for size, many in ((1, 1), (5, 3), (3, 5), (MOST_LOAD, 1), (1, MOST_LOAD)):
                sizes, reads = (size,) + (0,) * (n - 1), (many,) * n
                # Each later flush either leaves the first run alone, or merges everything into it.
                wanted = size + many + (n - 1) * (many + min(size, many))
                assert_same(self, least_work(sizes, reads)[0], wanted)
                if size < many:
                    assert_same(self, least_work(sizes, reads)[1], merges_everything(n))

    def test_only_the_last_has_reads(self):
        for n in (1, 2, 3, 10, 60):
            for size, many in ((1, 1), (5, 3), (3, 5), (MOST_LOAD, 1), (1, MOST_LOAD)):
                sizes, reads = (size,) * n, (0,) * (n - 1) + (many,)
                wanted = size + many + (n - 1) * (size + min(size, many))
                assert_same(self, least_work(sizes, reads)[0], wanted)
                if many < size:
                    assert_same(self, least_work(sizes, reads)[1], merges_nothing(n))

    def test_equal_loads(self):
        for load in (1, 2, 1000, MOST_LOAD):
            assert_same(self, least_work((load,) * 3, (load,) * 3), (8 * load, (0, 1, 0)))
            assert_same(self, least_work((load,) * 7, (load,) * 7), (24 * load, (0, 1, 0, 2, 0, 1, 0)))
            assert_same(self, least_roots((load,) * 3, (load,) * 3), ((0, 0, 1), (1, 1), (2,)))
            # Two flushes cost the same either way; the smaller root is the least.
            assert_same(self, least_work((load,) * 2, (load,) * 2), (5 * load, (0, 0)))


class LawsTest(unittest.TestCase):
    def pairs(self):
        return itertools.chain(brief_pairs(5), middle_pairs(), great_pairs())

    def test_the_schedule_has_the_work(self):
        for sizes, reads in self.pairs():
            found, schedule = least_work(sizes, reads)
            self.assertTrue(plain_is_schedule(schedule))
            self.assertEqual(len(schedule), len(sizes))
            assert_same(self, work(schedule, sizes, reads), found)
            assert_same(self, table(sizes, reads)[0][-1], found)

    def test_no_other_schedule_has_less(self):
        rng = random.Random(34)
        for sizes, reads in self.pairs():
            least = least_work(sizes, reads)[0]
            others = [merges_nothing(len(sizes)), merges_everything(len(sizes))]
            others.append(least_work(random_loads(rng, len(sizes), 5), random_loads(rng, len(sizes), 5))[1])
            for schedule in others:
                self.assertLessEqual(least, work(schedule, sizes, reads))

    def test_order_of_the_least_roots(self):
        for sizes, reads in self.pairs():
            roots = least_roots(sizes, reads)
            n = len(sizes)
            for start in range(n):
                for stop in range(start + 1, n):
                    # [start, stop + 1) lies between [start, stop) and [start + 1, stop + 1).
                    found = roots[start][stop - start]
                    self.assertLessEqual(roots[start][stop - start - 1], found)
                    self.assertLessEqual(found, roots[start + 1][stop - start - 1])

    def test_scaled_loads(self):
        for sizes, reads in itertools.chain(brief_pairs(5), middle_pairs()):
            if max(sizes + reads, default=0) > 10**6:
                continue
            for factor in (2, 7, 1000):
                more = [tuple(factor * load for load in loads) for loads in (sizes, reads)]
                least, schedule = least_work(sizes, reads)
                assert_same(self, least_work(*more), (factor * least, schedule))
                assert_same(self, least_roots(*more), least_roots(sizes, reads))
                rows = tuple(tuple(factor * part for part in row) for row in table(sizes, reads))
                assert_same(self, table(*more), rows)

    def test_added_loads(self):
        rng = random.Random(35)
        for n in (1, 2, 5, 9, 30, 60):
            for turn in range(6):
                loads = [random_loads(rng, n, rng.choice((1, 5, 10**8))) for part in range(4)]
                sizes, reads, more_sizes, more_reads = loads
                both = [tuple(map(sum, zip(one, two))) for one, two in ((sizes, more_sizes), (reads, more_reads))]
                least, schedule = least_work(*both)
                # The best schedule of the sum is one schedule for each of the parts.
                self.assertEqual(least, work(schedule, sizes, reads) + work(schedule, more_sizes, more_reads))
                self.assertGreaterEqual(least, least_work(sizes, reads)[0] + least_work(more_sizes, more_reads)[0])
                self.assertGreaterEqual(least, least_work(sizes, reads)[0] + sum(more_sizes) + sum(more_reads))

    def test_mirrored_loads(self):
        for sizes, reads in self.pairs():
            least = least_work(sizes, reads)[0]
            assert_same(self, least_work(reads[::-1], sizes[::-1])[0], least)


if __name__ == "__main__":
    unittest.main()
