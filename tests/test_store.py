import copy
import inspect
import itertools
import random
import unittest

from mergebudget.errors import (
    Exhausted, InvalidKey, InvalidMerge, InvalidMoment, InvalidPolicy, InvalidValue, NothingToUndo,
)  # fmt: skip
from mergebudget.policies import least_writes
from mergebudget.schedules import run_counts, stacks, writes
from mergebudget.states import best_merge, state_of
from mergebudget.store import Store
from mergebudget.work import read_work, write_work
from tests.budgets import plain_after, plain_best_merges, plain_lifetime
from tests.samples import assert_refused, assert_same, fixed_values, random_values
from tests.stores import (
    KEYS, POLICIES, PlainStore, entries_of, facts, led_store, only_schedule, outcome, plain_is_policy, random_merge,
    random_step, random_store, wrong_counts, wrong_keys, wrong_policies, wrong_values,
)  # fmt: skip

METHODS = {
    "put": ["key", "value"], "delete": ["key"], "flush": ["merge"], "read": ["key", "moment"], "visited": [],
    "present": ["moment"], "stack": [], "state": [], "schedule": [], "sizes": [], "written": [], "pending": [],
    "policy": [], "undo": [], "copy": [], "__eq__": ["other"], "__len__": [],
}  # fmt: skip


def manual_store(merges, batches):
    """A manual store with these merges and entries; None is a deletion."""
    store = Store(("manual",))
    for merge, batch in zip(merges, batches):
        write(store, batch)
        store.flush(merge)
    return store


def write(store, batch):
    for key, value in batch.items():
        if value is None:
            store.delete(key)
        else:
            store.put(key, value)


def full_store(policy):
    """A store that has accepted as many flushes as it can, some of them with entries."""
    store = Store(policy)
    while True:
        if len(store) % 3 != 1:
            store.put("a", len(store))
        merge = len(store.stack()) // 2 if policy == ("manual",) else None
        if outcome(lambda: store.flush(merge))[0] == "raises":
            return store


class CreationTest(unittest.TestCase):
    def test_right_policies(self):
        policies = POLICIES + [("runs", k) for k in range(1, 61)]
        policies += [("budget", k, c) for k in (1, 2, 30, 59, 60) for c in (1, 2, 30, 59, 60)]
        for policy in policies:
            for store in (Store(policy), Store(policy=policy)):
                assert_same(self, store.policy(), policy)
                wanted = facts(PlainStore(policy))
                assert_same(self, facts(store), wanted)
                self.assertEqual(len(store), 0)
                assert_same(self, (store.stack(), store.state(), store.schedule(), store.sizes()), ((), (), (), ()))
                assert_same(self, (store.written(), store.visited(), store.pending(), store.present()), (0, 0, (), ()))
                self.assertIsNone(store.read("a"))
                self.assertIsNone(store.read("a", moment=0))
                assert_same(self, store.visited(), 0)

    def test_wrong_policies(self):
        self.assertGreater(len(wrong_policies()), 200)
        for policy in wrong_policies():
            self.assertFalse(plain_is_policy(policy))
            assert_refused(self, Store, policy, InvalidPolicy)

    def test_methods_stand_in_the_class(self):
        for name, parameters in METHODS.items():
            self.assertIn(name, vars(Store))
            self.assertEqual(list(inspect.signature(vars(Store)[name]).parameters), ["self"] + parameters, name)
        for name in ("read", "present"):
            moment = inspect.signature(vars(Store)[name]).parameters["moment"]
            self.assertEqual((moment.kind, moment.default), (inspect.Parameter.KEYWORD_ONLY, None))
        self.assertIsNone(inspect.signature(Store.flush).parameters["merge"].default)

    def test_moment_must_be_given_by_name(self):
        store = manual_store((0,), ({"a": 1},))
        with self.assertRaises(TypeError):
            store.read("a", 1)
        with self.assertRaises(TypeError):
            store.present(1)
        assert_same(self, store.visited(), 0)


class HistoryTest(unittest.TestCase):
    """Random histories against a store that keeps a log, real runs and snapshots."""

    def compare(self, store, plain, rng):
        assert_same(self, facts(store), facts(plain))
        for turn in range(3):
            key = rng.choice(KEYS)
            moment = rng.choice((None, rng.randint(0, len(plain))))
            found = store.read(key, moment=moment)
            assert_same(self, found, plain.read(key, moment=moment))
            assert_same(self, found, plain.logged(key, moment))
            assert_same(self, store.visited(), plain.visited())

    def step(self, store, plain, rng):
        name, arguments = random_step(rng, plain)
        if rng.random() < 0.15:
            name, arguments = self.wrong_step(rng, plain)
        found = outcome(lambda: getattr(store, name)(*arguments))
        wanted = outcome(lambda: getattr(plain, name)(*arguments))
        assert_same(self, found, wanted)

    def wrong_step(self, rng, plain):
        wrong_key, wrong_value = rng.choice(wrong_keys()), rng.choice(wrong_values())
        wrong_merge = rng.choice(wrong_counts(len(plain.stack())))
        return rng.choice([
            ("put", (wrong_key, rng.choice((1, wrong_value)))), ("put", ("a", wrong_value)), ("delete", (wrong_key,)),
            ("flush", (wrong_merge,)), ("flush", (0,)), ("flush", ()), ("read", (wrong_key,)), ("undo", ()),
        ])  # fmt: skip

    def test_all_policies(self):
        rng = random.Random(81)
        for policy in POLICIES:
            for turn in range(10):
                store, plain = Store(policy), PlainStore(policy)
                for step in range(rng.choice((20, 60, 120))):
                    self.step(store, plain, rng)
                    if step % 3 == 0:
                        self.compare(store, plain, rng)
                self.compare(store, plain, rng)

    def test_every_read_at_every_moment(self):
        rng = random.Random(82)
        for policy in POLICIES:
            plain = random_store(rng, PlainStore, policy, 60)
            plain.past.clear()
            store = Store(policy)
            for batch, merge in zip(plain.log, plain.merges):
                write(store, batch)
                store.flush(merge if policy == ("manual",) else None)
            write(store, plain.buffer)
            assert_same(self, facts(store) | {"visited": 0}, facts(plain) | {"visited": 0})
            for key in KEYS + ("unknown",):
                for moment in [None] + list(range(len(plain) + 1)):
                    before = (store.visited(), plain.visited())
                    assert_same(self, store.read(key, moment=moment), plain.read(key, moment=moment))
                    self.assertEqual(store.visited() - before[0], plain.visited() - before[1])
                    self.assertEqual(plain.logged(key, moment), store.read(key, moment=moment))
                    self.assertEqual(plain.read(key, moment=moment), plain.logged(key, moment))

    def test_undo_back_to_the_first(self):
        rng = random.Random(83)
        for policy in POLICIES:
            store, steps = Store(policy), []
            for turn in range(40):
                name, arguments = random_step(rng, store)
                before = facts(store)
                twin = store.copy()
                if name != "undo" and outcome(lambda: getattr(store, name)(*arguments))[0] == "returns":
                    steps.append((before, twin))
            while steps:
                before, twin = steps.pop()
                self.assertIsNone(store.undo())
                assert_same(self, facts(store), before)
                self.assertEqual(store, twin)
            assert_refused_without_value(self, store.undo, NothingToUndo)
            self.assertEqual(store, Store(policy))


def assert_refused_without_value(test, call, error):
    """The call raises exactly this error, which has no value."""
    with test.assertRaises(error) as caught:
        call()
    test.assertIs(type(caught.exception), error)
    test.assertEqual(caught.exception.args, ())


class BufferTest(unittest.TestCase):
    def test_put_and_delete(self):
        store = Store(("manual",))
        self.assertIsNone(store.put("b", 1))
        self.assertIsNone(store.put("a", -2))
        self.assertIsNone(store.delete("c"))
        assert_same(self, store.pending(), (("a", -2), ("b", 1), ("c", None)))
        assert_same(self, store.present(), ("a", "b"))
        store.put("b", 0)
        assert_same(self, store.pending(), (("a", -2), ("b", 0), ("c", None)))
        store.delete("b")
        store.put("c", 5)
        assert_same(self, store.pending(), (("a", -2), ("b", None), ("c", 5)))
        assert_same(self, (store.read("a"), store.read("b"), store.read("c"), store.visited()), (-2, None, 5, 0))
        assert_same(self, store.present(), ("a", "c"))
        assert_same(self, store.present(moment=0), ())
        assert_same(self, store.flush(0), 0)
        assert_same(self, (store.pending(), store.sizes(), store.written()), ((), (3,), 3))

    def test_values(self):
        store = Store(("manual",))
        for value in (0, 1, -1, 10**59, -(10**59), 10**60 - 1):
            store.put("a", value)
            assert_same(self, store.read("a"), value)
            store.flush(0)
            assert_same(self, store.read("a"), value)

    def test_keys(self):
        store = Store(("manual",))
        keys = ["a", "z", "aa", "abcdefgh", "zzzzzzzz", "m", "az", "hello"]
        for at, key in enumerate(keys):
            store.put(key, at)
        assert_same(self, store.present(), tuple(sorted(keys)))
        for at, key in enumerate(keys):
            assert_same(self, store.read(key), at)

    def test_deletion_hides_older_values(self):
        store = manual_store((0, 0, 0), ({"a": 1}, {"a": None}, {"b": 1}))
        assert_same(self, store.read("a"), None)
        assert_same(self, store.visited(), 2)
        assert_same(self, [store.read("a", moment=moment) for moment in range(4)], [None, 1, None, None])
        assert_same(self, store.present(), ("b",))
        assert_same(self, store.present(moment=1), ("a",))
        store.put("a", 7)
        assert_same(self, store.read("a"), 7)
        store.delete("a")
        assert_same(self, store.read("a"), None)
        assert_same(self, store.read("a", moment=1), 1)

    def test_zero_is_a_value(self):
        store = manual_store((0, 0), ({"a": 0}, {}))
        assert_same(self, store.read("a"), 0)
        assert_same(self, store.present(), ("a",))
        store.put("b", 0)
        assert_same(self, store.read("b"), 0)
        assert_same(self, store.present(), ("a", "b"))


class SearchTest(unittest.TestCase):
    def searched(self, store, key, moment=None):
        """How many runs one read searches."""
        before = store.visited()
        store.read(key, moment=moment)
        return store.visited() - before

    def test_runs_from_the_newest(self):
        store = manual_store((0, 0, 0, 0), ({"a": 1}, {"b": 2}, {"a": 3}, {"c": 4}))
        found = [self.searched(store, key) for key in ("c", "a", "b", "d")]
        self.assertEqual(found, [1, 2, 3, 4])
        store.put("d", 1)
        store.delete("b")
        self.assertEqual([self.searched(store, key) for key in ("d", "b", "a")], [0, 0, 2])
        self.assertEqual([self.searched(store, "d", moment) for moment in range(5)], [0, 1, 2, 3, 4])
        self.assertEqual([self.searched(store, "a", moment) for moment in range(5)], [0, 1, 2, 1, 2])
        self.assertEqual([self.searched(store, "b", moment) for moment in range(5)], [0, 1, 1, 2, 3])

    def test_a_merged_run_is_one_run(self):
        store = manual_store((0, 0, 2, 0), ({"a": 1}, {"a": 2}, {"b": 3}, {"c": 4}))
        self.assertEqual(store.stack(), ((0, 3), (3, 4)))
        self.assertEqual([self.searched(store, key) for key in ("a", "b", "c", "d")], [2, 2, 1, 2])
        # A merged run keeps all its entries, and is searched if it starts before the moment.
        assert_same(self, [store.read("a", moment=moment) for moment in range(5)], [None, 1, 2, 2, 2])
        self.assertEqual([self.searched(store, "a", moment) for moment in range(5)], [0, 1, 1, 1, 2])
        self.assertEqual([self.searched(store, "b", moment) for moment in range(5)], [0, 1, 1, 1, 2])

    def test_a_run_whose_entries_do_not_count(self):
        store = manual_store((0, 0, 1), ({"a": 1}, {"b": 2}, {"a": 3}))
        self.assertEqual(store.stack(), ((0, 1), (1, 3)))
        # At moment 2 the newer run is searched, but its entry of flush 2 does not count.
        self.assertEqual(self.searched(store, "a", 2), 2)
        assert_same(self, store.read("a", moment=2), 1)
        self.assertEqual(self.searched(store, "a", 1), 1)
        self.assertEqual(self.searched(store, "a", 3), 1)
        self.assertEqual(self.searched(store, "a", 0), 0)

    def test_rejected_reads_do_not_count(self):
        store = manual_store((0, 0), ({"a": 1}, {"b": 2}))
        for key in wrong_keys():
            assert_refused(self, store.read, key, InvalidKey)
        for moment in wrong_counts(2):
            if moment is not None:
                assert_refused(self, lambda value: store.read("a", moment=value), moment, InvalidMoment)
        assert_same(self, store.visited(), 0)

    def test_present_is_no_search(self):
        store = manual_store((0, 0), ({"a": 1}, {"b": 2}))
        for moment in (None, 0, 1, 2):
            store.present(moment=moment)
        assert_same(self, store.visited(), 0)

    def test_visited_is_not_reverted(self):
        store = manual_store((0, 0), ({"a": 1}, {"b": 2}))
        store.read("a")
        assert_same(self, store.visited(), 2)
        store.undo()
        store.undo()
        assert_same(self, store.visited(), 2)
        store.read("a")
        assert_same(self, store.visited(), 3)


class WrongTest(unittest.TestCase):
    def stores(self):
        """Stores of all kinds, each with a history, entries and pending ones."""
        rng = random.Random(84)
        for policy in POLICIES:
            store = random_store(rng, Store, policy, 25)
            store.put("a", 1)
            yield store

    def check(self, store, call, value, error):
        """The call is refused and leaves the store as it was, with as many steps to undo."""
        assert_refused(self, call, value, error)
        self.assertEqual(facts(store), self.before)
        self.assertEqual(store, self.twin)

    def remember(self, store):
        self.before, self.twin = facts(store), store.copy()
        self.steps = undo_depth(store)

    def test_keys_values_and_merges(self):
        for store in self.stores():
            self.remember(store)
            for key in wrong_keys()[::3]:
                self.check(store, lambda value: store.put(value, 1), key, InvalidKey)
                self.check(store, lambda value: store.put(value, None), key, InvalidKey)
                self.check(store, store.delete, key, InvalidKey)
                self.check(store, store.read, key, InvalidKey)
                self.check(store, lambda value: store.read(value, moment=-1), key, InvalidKey)
            for wrong in wrong_values()[::3]:
                self.check(store, lambda value: store.put("a", value), wrong, InvalidValue)
            for wrong in wrong_counts(len(store))[::3]:
                if wrong is not None:
                    self.check(store, lambda value: store.read("a", moment=value), wrong, InvalidMoment)
                    self.check(store, lambda value: store.present(moment=value), wrong, InvalidMoment)
            self.assertEqual(undo_depth(store), self.steps)

    def test_merges(self):
        for store in self.stores():
            self.remember(store)
            manual = store.policy() == ("manual",)
            wrongs = wrong_counts(len(store.stack())) if manual else [0, 1, 2] + wrong_values() + [10**59, -1]
            for wrong in wrongs:
                if manual or wrong is not None:
                    self.check(store, store.flush, wrong, InvalidMerge)
            self.assertEqual(undo_depth(store), self.steps)

    def test_merge_of_another_number_of_runs(self):
        store = Store(("manual",))
        for wrong in (1, 2, -1, None, True, False):
            assert_refused(self, store.flush, wrong, InvalidMerge)
        assert_same(self, [store.flush(0), store.flush(1), store.flush(0), store.flush(0)], [0, 1, 0, 0])
        assert_refused(self, store.flush, 4, InvalidMerge)
        assert_same(self, store.flush(3), 3)
        assert_same(self, store.stack(), ((0, 5),))

    def test_undo_and_exhaustion_change_nothing(self):
        for policy in POLICIES:
            store = full_store(policy)
            before, twin, steps = facts(store), store.copy(), undo_depth(store)
            merge = 0 if policy == ("manual",) else None
            assert_refused_without_value(self, lambda: store.flush(merge), Exhausted)
            self.assertEqual(facts(store), before)
            self.assertEqual(store, twin)
            self.assertEqual(undo_depth(store), steps)
            fresh = Store(policy)
            assert_refused_without_value(self, fresh.undo, NothingToUndo)
            self.assertEqual(fresh, Store(policy))

    def test_names_in_any_order(self):
        for arguments in ({"key": "a", "value": 3}, {"value": 3, "key": "a"}):
            store = Store(policy=("manual",))
            store.put(**arguments)
            assert_same(self, store.pending(), (("a", 3),))
            store.flush(merge=0)
            store.delete(key="a")
            assert_same(self, [store.read(key="a", moment=1), store.read(moment=1, key="a")], [3, 3])
            assert_same(self, store.present(moment=1), ("a",))
            assert_same(self, store.read(moment=None, key="a"), None)
            assert_refused(self, lambda value: store.put(value=value, key="b"), None, InvalidValue)
            assert_refused(self, lambda value: store.put(value=None, key=value), 5, InvalidKey)
            assert_refused(self, lambda value: store.read(moment=2, key=value), "A", InvalidKey)

    def test_arguments_are_not_changed(self):
        store = manual_store((0,), ({"a": 1},))
        for value in fixed_values() + random_values(40):
            before = copy.deepcopy(value)
            for call in (Store, store.delete, store.read, store.flush):
                outcome(lambda: call(value))
            outcome(lambda: store.put("a", value))
            outcome(lambda: store.put(value, 1))
            outcome(lambda: store.read("a", moment=value))
            self.assertEqual(repr(value), repr(before))


def undo_depth(store):
    """How many steps a store can undo, told by undoing them all on a deep copy."""
    twin = copy.deepcopy(store)
    many = 0
    while outcome(twin.undo)[0] == "returns":
        many += 1
    return many


class FlushTest(unittest.TestCase):
    def test_manual_merges(self):
        rng = random.Random(85)
        for turn in range(20):
            store, merges = Store(("manual",)), []
            for flush in range(60):
                merge = random_merge(rng, len(store.stack())) if turn else 0
                merges.append(merge)
                assert_same(self, store.flush(merge), merge)
                self.assertEqual(store.schedule(), tuple(merges))
            assert_same(self, store.stack(), stacks(tuple(merges))[-1])
            assert_same(self, store.state(), state_of(tuple(merges)))
            assert_refused_without_value(self, lambda: store.flush(0), Exhausted)
            assert_refused(self, store.flush, len(store.stack()) + 1, InvalidMerge)
            assert_refused(self, store.flush, None, InvalidMerge)

    def test_runs_policy(self):
        for k in (1, 2, 3, 4, 7, 30, 59, 60):
            store = Store(("runs", k))
            wanted = only_schedule(k, 60)
            for flush in range(60):
                assert_same(self, store.flush(), wanted[flush])
                self.assertLessEqual(len(store.stack()), k)
                self.assertEqual(max(writes(store.schedule())), least_writes(flush + 1, k))
            assert_same(self, store.schedule(), wanted)
            assert_refused_without_value(self, store.flush, Exhausted)
            assert_refused(self, store.flush, 0, InvalidMerge)

    def test_budget_policy(self):
        for k, c in [(k, c) for k in range(1, 7) for c in range(1, 7)] + [(1, 60), (60, 1), (60, 60), (2, 60), (60, 2)]:
            store = Store(("budget", k, c))
            many = 0
            while outcome(store.flush)[0] == "returns":
                many += 1
                self.assertLessEqual(max(run_counts(store.schedule())), k)
                self.assertLessEqual(max(store.state()), c)
            self.assertEqual(many, min(60, plain_lifetime(k, c)), (k, c))
            assert_same(self, store.schedule(), only_schedule(k, c))
            assert_same(self, len(store), many)
            assert_refused_without_value(self, store.flush, Exhausted)
            assert_refused(self, store.flush, 0, InvalidMerge)
            assert_refused(self, store.flush, False, InvalidMerge)
            # After undo there is room again.
            store.undo()
            assert_same(self, store.flush(), only_schedule(k, c)[many - 1])

    def test_budget_policy_against_a_search(self):
        for k, c in ((1, 1), (2, 2), (3, 2), (2, 3), (3, 3), (4, 2), (1, 5)):
            store, state = Store(("budget", k, c)), ()
            while found := plain_best_merges(state, k, c):
                self.assertEqual(len(found), 1)
                self.assertEqual(best_merge(state, k, c), found[0])
                assert_same(self, store.flush(), found[0])
                state = plain_after(state, found[0])
                assert_same(self, store.state(), state)
            assert_refused_without_value(self, store.flush, Exhausted)

    def test_policies_do_not_look_at_the_entries(self):
        rng = random.Random(86)
        for policy in POLICIES[1:]:
            store = Store(policy)
            for flush in range(10):
                for turn in range(rng.randrange(4)):
                    store.put(rng.choice(KEYS), turn)
                outcome(store.flush)
            assert_same(self, store.schedule(), only_schedule(policy[1], 60)[: len(store)])

    def test_an_empty_buffer_makes_a_run_as_well(self):
        store = manual_store((0, 0, 1), ({}, {"a": 1}, {}))
        assert_same(self, (store.sizes(), store.stack(), store.written()), ((0, 1, 0), ((0, 1), (1, 3)), 2))
        assert_same(self, store.read("a"), 1)
        assert_same(self, store.visited(), 1)


class UndoTest(unittest.TestCase):
    def test_steps_without_effect(self):
        store = Store(("manual",))
        store.put("a", 1)
        store.put("a", 1)
        store.delete("b")
        store.delete("b")
        store.flush(0)
        store.flush(0)
        wanted = [
            ((0,), ()), ((), (("a", 1), ("b", None))), ((), (("a", 1), ("b", None))), ((), (("a", 1),)),
            ((), (("a", 1),)), ((), ()),
        ]  # fmt: skip
        for schedule, pending in wanted:
            store.undo()
            assert_same(self, (store.schedule(), store.pending()), (schedule, pending))
        assert_refused_without_value(self, store.undo, NothingToUndo)

    def test_replaced_entries(self):
        store = Store(("manual",))
        steps = [("put", ("a", 1)), ("put", ("a", 2)), ("delete", ("a",)), ("put", ("a", 0)), ("delete", ("a",))]
        led_store(store, steps)
        for wanted in ((("a", 0),), (("a", None),), (("a", 2),), (("a", 1),), ()):
            store.undo()
            assert_same(self, store.pending(), wanted)

    def test_flush_with_a_merge(self):
        store = manual_store((0, 0), ({"a": 1}, {"a": 2}))
        store.delete("a")
        store.flush(2)
        assert_same(self, (store.stack(), store.read("a")), (((0, 3),), None))
        store.undo()
        assert_same(self, (store.stack(), store.pending()), (((0, 1), (1, 2)), (("a", None),)))
        store.undo()
        assert_same(self, (store.read("a"), store.pending()), (2, ()))
        store.undo()
        assert_same(self, (store.read("a"), store.pending(), store.schedule()), (2, (("a", 2),), (0,)))
        store.undo()
        assert_same(self, store.read("a"), 1)

    def test_reads_and_rejected_calls_are_not_reverted(self):
        store = Store(("manual",))
        store.put("a", 1)
        store.flush(0)
        store.read("a")
        outcome(lambda: store.put("a", None))
        outcome(lambda: store.put("A", 1))
        outcome(lambda: store.flush(5))
        outcome(lambda: store.delete(""))
        store.present()
        store.copy()
        store.undo()
        assert_same(self, (store.schedule(), store.pending(), store.visited()), ((), (("a", 1),), 1))
        store.undo()
        assert_same(self, store.pending(), ())
        assert_refused_without_value(self, store.undo, NothingToUndo)

    def test_going_on_after_undo(self):
        store = Store(("manual",))
        store.put("a", 1)
        store.flush(0)
        store.undo()
        store.put("b", 2)
        store.flush(0)
        assert_same(self, store.sizes(), (2,))
        store.undo()
        store.undo()
        assert_same(self, store.pending(), (("a", 1),))
        store.flush(0)
        store.put("a", 3)
        assert_same(self, (store.read("a"), store.read("a", moment=1)), (3, 1))

    def test_undo_is_not_undone(self):
        store = Store(("manual",))
        store.put("a", 1)
        store.put("b", 2)
        store.undo()
        store.undo()
        assert_same(self, store.pending(), ())
        assert_refused_without_value(self, store.undo, NothingToUndo)


class CopyTest(unittest.TestCase):
    def test_copies_are_equal_and_have_nothing_to_undo(self):
        rng = random.Random(87)
        for policy in POLICIES:
            for many in (0, 1, 5, 40):
                store = random_store(rng, Store, policy, many)
                store.read("a")
                twin = store.copy()
                self.assertTrue(twin == store and store == twin)
                self.assertIs(type(twin), Store)
                self.assertIsNot(twin, store)
                assert_same(self, twin.visited(), 0)
                assert_same(self, facts(twin), facts(store) | {"visited": 0})
                assert_same(self, entries_of(twin), entries_of(store))
                assert_refused_without_value(self, twin.undo, NothingToUndo)

    def test_copies_share_nothing(self):
        rng = random.Random(88)
        for policy in POLICIES:
            store = random_store(rng, Store, policy, 20)
            store.put("a", 1)
            for leading in (True, False):
                twin = store.copy()
                before, entries = facts(store), entries_of(store)
                led, kept = (twin, store) if leading else (store, twin)
                wanted = facts(kept)
                for turn in range(30):
                    name, arguments = random_step(rng, led)
                    outcome(lambda: getattr(led, name)(*arguments))
                    led.read("a")
                led.put("b", 1000 + leading)
                assert_same(self, facts(kept), wanted)
                assert_same(self, entries_of(kept), entries)
                self.assertNotEqual(led, kept)
                self.assertEqual(before["policy"], policy)

    def test_undo_of_the_first_leaves_the_copy(self):
        store = manual_store((0, 0), ({"a": 1}, {"b": 2}))
        twin = store.copy()
        store.undo()
        store.put("b", 5)
        store.put("c", 6)
        assert_same(self, twin.read("b"), 2)
        assert_same(self, (twin.schedule(), twin.pending(), twin.present()), ((0, 0), (), ("a", "b")))
        twin.put("d", 1)
        twin.flush(0)
        assert_same(self, store.schedule(), (0,))


class EqualityTest(unittest.TestCase):
    def assert_unequal(self, one, other):
        self.assertIs(one == other, False)
        self.assertIs(other == one, False)
        self.assertIs(one != other, True)
        self.assertIs(other != one, True)

    def assert_equal(self, one, other):
        self.assertIs(one == other, True)
        self.assertIs(other == one, True)
        self.assertIs(one != other, False)

    def test_equal_stores(self):
        rng = random.Random(89)
        for policy in POLICIES:
            steps = []
            store = Store(policy)
            for turn in range(30):
                name, arguments = random_step(rng, store)
                if outcome(lambda: getattr(store, name)(*arguments))[0] == "returns":
                    steps.append((name, arguments))
            other = led_store(Store(policy), steps)
            self.assert_equal(store, other)
            # What was read, and what can be undone, makes no difference.
            other.read("a")
            other.put("q", 1)
            self.assert_unequal(store, other)
            other.undo()
            self.assert_equal(store, other)
            self.assert_equal(store, store)

    def test_order_of_writing_makes_no_difference(self):
        one, other = Store(("manual",)), Store(("manual",))
        led_store(one, [("put", ("a", 1)), ("delete", ("b",)), ("put", ("a", 2)), ("flush", (0,)), ("put", ("c", 3))])
        led_store(other, [("delete", ("b",)), ("put", ("a", 2)), ("flush", (0,)), ("delete", ("c",))])
        other.put("c", 3)
        self.assert_equal(one, other)

    def test_one_place_different(self):
        base = (((0, 0, 2), ({"a": 1}, {"b": 2}, {})), {"c": 3})
        variants = [
            (((0, 0, 1), ({"a": 1}, {"b": 2}, {})), {"c": 3}), (((0, 0, 0), ({"a": 1}, {"b": 2}, {})), {"c": 3}),
            (((0, 1, 1), ({"a": 1}, {"b": 2}, {})), {"c": 3}), (((0, 0, 2), ({"a": 2}, {"b": 2}, {})), {"c": 3}),
            (((0, 0, 2), ({"a": None}, {"b": 2}, {})), {"c": 3}), (((0, 0, 2), ({"b": 1}, {"b": 2}, {})), {"c": 3}),
            (((0, 0, 2), ({"a": 1, "b": 2}, {}, {})), {"c": 3}), (((0, 0, 2), ({}, {"a": 1, "b": 2}, {})), {"c": 3}),
            (((0, 0, 2), ({"a": 1}, {"b": 2}, {"a": 1})), {"c": 3}), (((0, 0, 2), ({"a": 1}, {}, {"b": 2})), {"c": 3}),
            (((0, 0, 2), ({"a": 1}, {"b": 2}, {"z": None})), {"c": 3}), (((0, 0, 2), ({"a": 1}, {"b": 2}, {})), {}),
            (((0, 0, 2), ({"a": 1}, {"b": 2}, {})), {"c": None}), (((0, 0, 2), ({"a": 1}, {"b": 2}, {})), {"d": 3}),
            (((0, 0, 2), ({"a": 1}, {"b": 2}, {})), {"c": 4}), (((0, 0), ({"a": 1}, {"b": 2})), {"c": 3}),
            (((0, 0, 2), ({"a": 1}, {"b": 2}, {})), {"c": 3, "d": None}), (((), ()), {"c": 3}), (((), ()), {}),
        ]  # fmt: skip
        stores = []
        for (merges, batches), pending in [base] + variants:
            store = manual_store(merges, batches)
            write(store, pending)
            self.assert_equal(store, store.copy())
            stores.append(store)
        for one, other in itertools.combinations(stores, 2):
            self.assert_unequal(one, other)

    def test_different_policies_with_the_same_flushes(self):
        stores = [Store(policy) for policy in POLICIES]
        for one, other in itertools.combinations(stores, 2):
            self.assert_unequal(one, other)
        same = [Store(("runs", 2)), Store(("budget", 2, 2)), Store(("budget", 2, 3)), Store(("manual",))]
        for store in same:
            for merge in (0, 0, 2):
                store.put("a", 1)
                store.flush(merge if store.policy() == ("manual",) else None)
            self.assertEqual(store.schedule(), (0, 0, 2))
        for one, other in itertools.combinations(same, 2):
            self.assert_unequal(one, other)

    def test_other_kinds_of_values(self):
        for store in (Store(("manual",)), manual_store((0, 0), ({"a": 1}, {})), full_store(("runs", 2))):
            values = fixed_values() + random_values(60) + [store.policy(), store.schedule(), store.stack(), Store]
            values += [PlainStore(("manual",)), object(), (store,), len(store), facts(store)]
            for value in values:
                self.assert_unequal(store, value)

    def test_length(self):
        store = Store(("manual",))
        for many in range(60):
            assert_same(self, len(store), many)
            store.flush(0)
        assert_same(self, len(store), 60)
        store.undo()
        assert_same(self, len(store), 59)


class CountersTest(unittest.TestCase):
    def test_written_and_visited_are_the_work(self):
        rng = random.Random(90)
        for policy in POLICIES:
            store, reads = Store(policy), []
            while len(reads) < 60:
                for turn in range(rng.randrange(5)):
                    store.put(rng.choice(KEYS), turn)
                merge = random_merge(rng, len(store.stack())) if policy == ("manual",) else None
                if outcome(lambda: store.flush(merge))[0] == "raises":
                    break
                reads.append(rng.randrange(4))
                for turn in range(reads[-1]):
                    # A key without any entry makes each read visit every run.
                    self.assertIsNone(store.read("nowhere"))
            assert_same(self, store.written(), write_work(store.schedule(), store.sizes()))
            assert_same(self, store.visited(), read_work(store.schedule(), tuple(reads)))


if __name__ == "__main__":
    unittest.main()
