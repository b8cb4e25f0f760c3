import copy
import itertools
import random
import unittest

from mergebudget.errors import InvalidSchedule, InvalidTree
from mergebudget.schedules import all_schedules, run_counts, writes
from mergebudget.trees import edges, is_tree, mirror, schedule_of, tree_of
from tests.samples import (
    CATALAN, assert_bool, assert_refused, assert_same, changed, fixed_values, hang, long_schedules, merges_at_the_end,
    merges_every_second, merges_everything, merges_nothing, plain_edges, plain_is_schedule, plain_is_tree, plain_tree,
    random_values, simulate, wrong_schedules,
)  # fmt: skip


def short_and_long():
    return [schedule for n in range(7) for schedule in all_schedules(n)] + long_schedules()


def left_chain(n):
    """The last node is the root, and each other node is the left child of the next one."""
    return tuple(range(1, n)) + (-1,)


def right_chain(n):
    return tuple(range(-1, n - 1))


def zigzag(n):
    """Nodes 0, n - 1, 1, n - 2, .. below one another."""
    path = [at // 2 if at % 2 == 0 else n - 1 - at // 2 for at in range(n)]
    above = dict(zip(path, [-1] + path))
    return tuple(above[node] for node in range(n))


class IsTreeTest(unittest.TestCase):
    def test_all_tuples_of_up_to_four_parents(self):
        for n in range(5):
            found = 0
            for value in itertools.product(range(-2, n + 2), repeat=n):
                assert_bool(self, is_tree(value), plain_is_tree(value), value)
                found += is_tree(value)
            self.assertEqual(found, CATALAN[n])

    def test_values_of_any_kind(self):
        for value in fixed_values() + random_values(2000):
            before = copy.deepcopy(value)
            assert_bool(self, is_tree(value), plain_is_tree(value), value)
            self.assertEqual(repr(value), repr(before))

    def test_fixed_values_are_none(self):
        for value in fixed_values():
            self.assertIs(is_tree(value), False, repr(value))

    def test_trees_of_long_schedules_with_one_thing_changed(self):
        rng = random.Random(23)
        for schedule in long_schedules()[::2]:
            tree = plain_tree(schedule)
            self.assertIs(is_tree(tree), True)
            for value in changed(rng, tree, (0, 1, len(tree) // 2, len(tree) - 1)):
                assert_bool(self, is_tree(value), plain_is_tree(value), value)

    def test_limit_of_nodes(self):
        for made in (left_chain, right_chain, zigzag):
            self.assertTrue(plain_is_tree(made(59)))
            self.assertIs(is_tree(made(59)), True)
            self.assertIs(is_tree(made(60)), True)
            self.assertIs(is_tree(made(61)), False)
            self.assertIs(is_tree(made(62)), False)

    def test_bools_are_no_parents(self):
        self.assertIs(is_tree((1, -1)), True)
        self.assertIs(is_tree((True, -1)), False)
        self.assertIs(is_tree((-1, 0)), True)
        self.assertIs(is_tree((-1, False)), False)

    def test_wrong_trees(self):
        cases = (
            (0,), (1,), (-2,), (1, 0), (-1, -1), (-1, 1), (0, -1), (2, 2, -1), (-1, 0, 0), (-1, 2, 1), (1, 2, 0),
            (1, -1, 0), (-1, 3, 0, 1), (2, 0, -1, -1), [2, 0, -1], (3, 0, 1, -1, 0),
        )  # fmt: skip
        for value in cases:
            self.assertFalse(plain_is_tree(value))
            self.assertIs(is_tree(value), False, repr(value))

    def test_argument_by_name(self):
        self.assertIs(is_tree(value=(1, -1)), True)
        self.assertIs(is_tree(value=(1, 0)), False)


class TreeOfTest(unittest.TestCase):
    def test_as_defined(self):
        for schedule in short_and_long():
            assert_same(self, tree_of(schedule), plain_tree(schedule))

    def test_result_is_a_tree(self):
        for schedule in short_and_long():
            self.assertTrue(plain_is_tree(tree_of(schedule)))
            self.assertIs(is_tree(tree_of(schedule)), True)

    def test_different_schedules_have_different_trees(self):
        for n in range(9):
            self.assertEqual(len({tree_of(schedule) for schedule in all_schedules(n)}), CATALAN[n])
        samples = set(long_schedules())
        self.assertEqual(len({tree_of(schedule) for schedule in samples}), len(samples))

    def test_extreme_schedules(self):
        assert_same(self, tree_of(()), ())
        assert_same(self, tree_of(merges_nothing(60)), right_chain(60))
        assert_same(self, tree_of(merges_everything(60)), left_chain(60))
        assert_same(self, tree_of(merges_at_the_end(60)), (59,) + tuple(range(58)) + (-1,))

    def test_argument_by_name(self):
        assert_same(self, tree_of(schedule=(0, 1)), (1, -1))

    def test_two_schedules_joined_by_a_flush_that_merges_all(self):
        short = [schedule for n in range(5) for schedule in all_schedules(n)]
        pairs = list(itertools.product(short, short))
        rng = random.Random(31)
        samples = [schedule for schedule in long_schedules() if len(schedule) < 30]
        pairs.extend((rng.choice(samples), rng.choice(samples)) for turn in range(200))
        for first, second in pairs:
            root = len(first)
            runs = run_counts(first)[-1] if first else 0
            tree = tree_of(first + (runs,) + second)
            self.assertEqual(tree[root], -1)
            assert_same(self, tree[:root], hang(tree_of(first), root, 0))
            assert_same(self, tree[root + 1 :], hang(tree_of(second), root, root + 1))


class ScheduleOfTest(unittest.TestCase):
    def test_inverse_of_tree_of(self):
        for schedule in short_and_long():
            assert_same(self, schedule_of(plain_tree(schedule)), schedule)
            assert_same(self, schedule_of(tree_of(schedule)), schedule)

    def test_tree_of_is_its_inverse(self):
        trees = [value for n in range(5) for value in itertools.product(range(-1, n), repeat=n) if plain_is_tree(value)]
        for tree in trees + [made(n) for made in (left_chain, right_chain, zigzag) for n in (1, 2, 30, 59, 60)]:
            schedule = schedule_of(tree)
            self.assertTrue(plain_is_schedule(schedule))
            assert_same(self, tree_of(schedule), tree)

    def test_argument_by_name(self):
        assert_same(self, schedule_of(tree=(1, -1)), (0, 1))
        assert_same(self, schedule_of(tree=()), ())


class EdgesTest(unittest.TestCase):
    def test_counted_on_the_way_down(self):
        for schedule in short_and_long():
            tree = plain_tree(schedule)
            assert_same(self, edges(tree), plain_edges(tree))

    def test_chains(self):
        assert_same(self, edges(()), ())
        assert_same(self, edges((-1,)), ((0, 0),))
        assert_same(self, edges(left_chain(60)), tuple((node, 0) for node in range(59, -1, -1)))
        assert_same(self, edges(right_chain(60)), tuple((0, node) for node in range(60)))

    def test_writes_and_run_counts_are_the_edges_plus_one(self):
        for schedule in short_and_long():
            history, written = simulate(schedule)
            found = edges(tree_of(schedule))
            self.assertEqual(tuple(left + 1 for left, right in found), tuple(written))
            self.assertEqual(tuple(right + 1 for left, right in found), tuple(len(runs) for runs in history))
            self.assertEqual(tuple(left + 1 for left, right in found), writes(schedule))
            self.assertEqual(tuple(right + 1 for left, right in found), run_counts(schedule))

    def test_argument_by_name(self):
        assert_same(self, edges(tree=(1, -1)), ((1, 0), (0, 0)))


class MirrorTest(unittest.TestCase):
    def test_tree_is_renumbered_from_the_end(self):
        for schedule in short_and_long():
            tree = plain_tree(schedule)
            last = len(tree) - 1
            wanted = tuple(-1 if parent == -1 else last - parent for parent in tree[::-1])
            result = mirror(schedule)
            self.assertTrue(plain_is_schedule(result))
            assert_same(self, plain_tree(result), wanted)
            assert_same(self, tree_of(result), wanted)

    def test_counts_are_exchanged_and_reversed(self):
        for schedule in short_and_long():
            history, written = simulate(mirror(schedule))
            self.assertEqual(tuple(written[::-1]), run_counts(schedule))
            self.assertEqual(tuple(len(runs) for runs in history[::-1]), writes(schedule))
            self.assertEqual(writes(mirror(schedule))[::-1], run_counts(schedule))
            self.assertEqual(run_counts(mirror(schedule))[::-1], writes(schedule))

    def test_mirror_of_the_mirror(self):
        for schedule in short_and_long():
            assert_same(self, mirror(mirror(schedule)), schedule)

    def test_extreme_schedules(self):
        assert_same(self, mirror(()), ())
        assert_same(self, mirror((0,)), (0,))
        assert_same(self, mirror(merges_nothing(60)), merges_everything(60))
        assert_same(self, mirror(merges_everything(60)), merges_nothing(60))

    def test_argument_by_name(self):
        assert_same(self, mirror(schedule=(0, 1)), (0, 0))


class WrongArgumentsTest(unittest.TestCase):
    def test_wrong_schedules(self):
        wrong = wrong_schedules()
        self.assertGreater(len(wrong), 5000)
        for function in (tree_of, mirror):
            for value in wrong:
                assert_refused(self, function, value, InvalidSchedule)

    def test_wrong_trees(self):
        rng = random.Random(43)
        values = fixed_values() + random_values(400)
        values.extend(value for n in range(5) for value in itertools.product(range(-1, n + 1), repeat=n))
        for schedule in long_schedules()[::3]:
            tree = plain_tree(schedule)
            values.extend(changed(rng, tree, (0, 1, len(tree) // 2, len(tree) - 1)))
        values.extend(made(n) for made in (left_chain, right_chain, zigzag) for n in (61, 62))
        wrong = [value for value in values if not plain_is_tree(value)]
        self.assertGreater(len(wrong), 5000)
        for function in (schedule_of, edges):
            for value in wrong:
                assert_refused(self, function, value, InvalidTree)

    def test_limit(self):
        for made in (left_chain, right_chain, zigzag):
            for function in (schedule_of, edges):
                self.assertEqual(len(function(made(60))), 60)
                assert_refused(self, function, made(61), InvalidTree)
        for made in (merges_nothing, merges_everything, merges_every_second, merges_at_the_end):
            for function in (tree_of, mirror):
                self.assertEqual(len(function(made(60))), 60)
                assert_refused(self, function, made(61), InvalidSchedule)

    def test_refused_by_name(self):
        value = [2, 0, -1]
        for function in (schedule_of, edges):
            with self.assertRaises(InvalidTree) as caught:
                function(tree=value)
            self.assertIs(caught.exception.value, value)
        for function in (tree_of, mirror):
            with self.assertRaises(InvalidSchedule) as caught:
                function(schedule=value)
            self.assertIs(caught.exception.value, value)


if __name__ == "__main__":
    unittest.main()
