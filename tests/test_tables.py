import copy
import random
import unittest

from mergebudget.tables import shows_bound, table
from tests.loads import (
    MOST_LOAD, Trial, changed_places, load_pairs, other_parts, plain_shows_bound, random_loads, small_pairs,
)  # fmt: skip
from tests.samples import assert_bool, assert_same, fixed_values, random_values


def with_part(rows, start, at, part):
    """A table with another element at one place."""
    row = rows[start][:at] + (part,) + rows[start][at + 1 :]
    return rows[:start] + (row,) + rows[start + 1 :]


def zeros(n):
    return tuple((0,) * (n + 1 - start) for start in range(n + 1))


class TableTest(unittest.TestCase):
    """The elements are tested against trials and listings in test_optimum."""

    def test_shape(self):
        rng = random.Random(51)
        for n in range(61):
            rows = table(random_loads(rng, n, 9), random_loads(rng, n, 9))
            self.assertEqual([len(row) for row in rows], list(range(n + 1, 0, -1)))
            self.assertTrue(type(rows) is tuple and all(type(row) is tuple for row in rows))
            self.assertTrue(all(type(part) is int for row in rows for part in row))
            self.assertTrue(all(row[0] == 0 for row in rows))

    def test_known_by_hand(self):
        assert_same(self, table((), ()), ((0,),))
        assert_same(self, table((3,), (4,)), ((0, 7), (0,)))
        assert_same(self, table((0, 0, 0), (0, 0, 0)), zeros(3))
        assert_same(self, table((1, 1, 1), (1, 1, 1)), ((0, 2, 5, 8), (0, 2, 5), (0, 2), (0,)))
        assert_same(self, table((1, 10, 100), (0, 0, 0)), ((0, 1, 11, 111), (0, 10, 110), (0, 100), (0,)))
        assert_same(self, table((0, 0, 0), (1, 10, 100)), ((0, 1, 11, 111), (0, 10, 110), (0, 100), (0,)))

    def test_part_of_a_table_is_the_table_of_the_part(self):
        rng = random.Random(52)
        for turn in range(20):
            n = rng.randint(1, 30)
            sizes, reads = random_loads(rng, n, 20), random_loads(rng, n, 20)
            start = rng.randrange(n)
            stop = rng.randint(start, n)
            rows = table(sizes, reads)
            part = tuple(rows[at][: stop - at + 1] for at in range(start, stop + 1))
            assert_same(self, table(sizes[start:stop], reads[start:stop]), part)


class ShowsBoundTest(unittest.TestCase):
    def check(self, sizes, reads, bound, value):
        found = shows_bound(sizes, reads, bound, value)
        assert_bool(self, found, plain_shows_bound(sizes, reads, bound, value), (sizes, reads, bound, value))
        return found

    def test_own_tables_with_the_right_bound_and_no_other(self):
        for n in range(8):
            for sizes, reads in load_pairs(n, n):
                rows = table(sizes, reads)
                least = rows[0][-1]
                self.assertIs(shows_bound(sizes, reads, least, rows), True)
                for bound in (least + 1, least - 1, -least - 1, least + 10**9, 2 * least + 1, 10**59):
                    self.assertIs(shows_bound(sizes, reads, bound, rows), False)

    def test_own_tables_of_sixty_flushes(self):
        rng = random.Random(53)
        for most in (0, 1, MOST_LOAD):
            sizes, reads = random_loads(rng, 60, most), random_loads(rng, 60, most)
            rows = table(sizes, reads)
            least = rows[0][-1]
            self.assertIs(shows_bound(sizes, reads, least, rows), True)
            self.assertIs(shows_bound(sizes, reads, least + 1, rows), False)
            raised = with_part(rows, 0, 60, least + 1)
            self.assertIs(shows_bound(sizes, reads, least + 1, raised), False)
            for turn in range(10):
                start = rng.randrange(61)
                at = rng.randrange(61 - start)
                raised = with_part(rows, start, at, rows[start][at] + 1)
                self.assertIs(shows_bound(sizes, reads, least, raised), False)

    def test_lowered_tables(self):
        rng = random.Random(54)
        accepted = 0
        for n in range(7):
            for sizes, reads in small_pairs(n, n + 1):
                rows = table(sizes, reads)
                least = rows[0][-1]
                for less in (1, 2, 10**9, 10**40):
                    # Nothing is built on the whole interval, so it may be as low as one likes.
                    self.assertIs(shows_bound(sizes, reads, least - less, with_part(rows, 0, n, least - less)), True)
                    self.assertIs(shows_bound(sizes, reads, least, with_part(rows, 0, n, least - less)), False)
                self.assertIs(shows_bound(sizes, reads, 0, zeros(n)), True)
                for turn in range(30):
                    low = rng.choice((1, 2, 20))
                    value = tuple(tuple(part - max(0, rng.randint(-2, low)) for part in row) for row in rows)
                    accepted += self.check(sizes, reads, value[0][-1], value)
                    self.check(sizes, reads, least, value)
        self.assertGreater(accepted, 20)

    def test_tables_of_smaller_loads(self):
        rng = random.Random(55)
        for n in (0, 1, 2, 5, 12, 60):
            for turn in range(5):
                sizes, reads = random_loads(rng, n, 100), random_loads(rng, n, 100)
                rows = table(tuple(load // 2 for load in sizes), tuple(load // 3 for load in reads))
                self.assertIs(shows_bound(sizes, reads, rows[0][-1], rows), True)

    def test_empty_intervals_below_zero(self):
        # A low empty interval makes every interval beside it low, too.
        self.assertIs(shows_bound((1,), (1,), 2, ((0, 2), (0,))), True)
        self.assertIs(shows_bound((1,), (1,), 2, ((-1, 2), (0,))), False)
        self.assertIs(shows_bound((1,), (1,), 1, ((-1, 1), (0,))), True)
        self.assertIs(shows_bound((1,), (1,), 1, ((0, 1), (-1,))), True)
        self.assertIs(shows_bound((1,), (1,), 0, ((-1, 0), (-1,))), True)
        self.assertIs(shows_bound((1,), (1,), 1, ((-1, 1), (-1,))), False)
        self.assertIs(shows_bound((), (), 0, ((0,),)), True)
        self.assertIs(shows_bound((), (), -5, ((-5,),)), True)
        self.assertIs(shows_bound((), (), 1, ((1,),)), False)
        self.assertIs(shows_bound((), (), 0, ((-5,),)), False)

    def test_one_element_raised(self):
        for n in range(6):
            for sizes, reads in small_pairs(n, n + 2):
                rows = table(sizes, reads)
                for start in range(n + 1):
                    for at in range(n + 1 - start):
                        for more in (1, 2, 10**9, 10**40):
                            value = with_part(rows, start, at, rows[start][at] + more)
                            for bound in (rows[0][-1], value[0][-1]):
                                self.assertIs(shows_bound(sizes, reads, bound, value), False)

    def test_one_thing_changed_at_any_depth(self):
        accepted = 0
        for n in range(5):
            for sizes, reads in small_pairs(n, n + 3):
                rows = table(sizes, reads)
                for value in changed_places(rows, other_parts):
                    before = copy.deepcopy(value)
                    accepted += self.check(sizes, reads, rows[0][-1], value)
                    self.assertEqual(repr(value), repr(before))
        self.assertGreater(accepted, 50)

    def test_claims_that_fit_a_changed_table(self):
        for sizes, reads in small_pairs(3, 56):
            for value in changed_places(table(sizes, reads), other_parts):
                if type(value) is tuple and value and type(value[0]) is tuple and value[0]:
                    self.check(sizes, reads, value[0][-1], value)

    def test_two_things_changed(self):
        rng = random.Random(57)
        for sizes, reads in small_pairs(3, 57):
            rows = table(sizes, reads)
            variants = list(changed_places(rows, other_parts))
            for value in rng.sample(variants, 40):
                if type(value) is tuple and value:
                    again = list(changed_places(value, other_parts_of_any))
                    for other in rng.sample(again, min(len(again), 40)):
                        self.check(sizes, reads, rows[0][-1], other)

    def test_tables_of_other_loads(self):
        rng = random.Random(58)
        accepted = 0
        for n in (1, 2, 3, 5, 8):
            for turn in range(60):
                loads = [random_loads(rng, n, rng.choice((1, 3, 9))) for part in range(4)]
                rows = table(loads[2], loads[3])
                accepted += self.check(loads[0], loads[1], rows[0][-1], rows)
        self.assertGreater(accepted, 5)

    def test_tables_of_another_length(self):
        for n in range(5):
            for other in range(5):
                rows = table((1,) * other, (1,) * other)
                wanted = n == other
                self.assertIs(shows_bound((1,) * n, (1,) * n, rows[0][-1], rows), wanted)

    def test_exchanged_loads_have_other_tables(self):
        rows = table((5, 1, 1), (1, 1, 1))
        self.assertIs(shows_bound((5, 1, 1), (1, 1, 1), 13, rows), True)
        self.assertIs(shows_bound((1, 1, 1), (5, 1, 1), 13, rows), False)
        self.assertIs(shows_bound((1, 1, 5), (1, 1, 1), 13, rows), False)

    def test_values_of_any_kind(self):
        values = fixed_values() + random_values(500)
        values.extend((value,) for value in fixed_values())
        values.extend(((value,),) for value in fixed_values())
        values.extend(((0, value), (0,)) for value in fixed_values())
        values.extend(((0, 2), value) for value in fixed_values())
        for value in values:
            for sizes, reads, bound in (((), (), 0), ((1,), (1,), 2), ((5, 1, 1), (1, 1, 1), 13)):
                before = copy.deepcopy(value)
                self.check(sizes, reads, bound, value)
                self.assertEqual(repr(value), repr(before))

    def test_bounds_of_any_kind(self):
        for sizes, reads in (((), ()), ((1,), (0,)), ((0,), (0,)), ((5, 1, 1), (1, 1, 1))):
            rows = table(sizes, reads)
            right = rows[0][-1]
            bounds = [True, False, None, str(right), (right,), [right], {right: right}, right + 1, -right - 1]
            for bound in bounds + fixed_values() + random_values(200):
                wanted = type(bound) is int and bound == right
                self.assertIs(shows_bound(sizes, reads, bound, rows), wanted, repr(bound))
                for value in (None, (), bound, ((bound,),), rows[:-1]):
                    self.check(sizes, reads, bound, value)

    def test_a_bool_is_no_bound(self):
        self.assertIs(shows_bound((1,), (0,), 1, ((0, 1), (0,))), True)
        self.assertIs(shows_bound((1,), (0,), True, ((0, 1), (0,))), False)
        self.assertIs(shows_bound((1,), (0,), 1, ((0, True), (0,))), False)
        self.assertIs(shows_bound((1,), (0,), True, ((0, True), (0,))), False)
        self.assertIs(shows_bound((1,), (0,), 1, ((False, 1), (0,))), False)
        self.assertIs(shows_bound((), (), False, ((0,),)), False)
        self.assertIs(shows_bound((), (), 0, ((False,),)), False)


def other_parts_of_any(part):
    """As other_parts, where an element may be of any kind."""
    if type(part) is int:
        return other_parts(part)
    return (0, 1, None, (), ((0,),))


class TrialTest(unittest.TestCase):
    def test_tables_of_a_trial_are_accepted(self):
        rng = random.Random(59)
        for n in (0, 1, 4, 9, 17):
            sizes, reads = random_loads(rng, n, 50), random_loads(rng, n, 50)
            rows = Trial(sizes, reads).table()
            self.assertIs(shows_bound(sizes, reads, rows[0][-1], rows), True)


if __name__ == "__main__":
    unittest.main()
