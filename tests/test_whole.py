"""What the document promises over the whole program: stores, schedules, work, states and texts together."""

import importlib
import random
import unittest

from mergebudget.bounded import least_work_within
from mergebudget.desk import Desk
from mergebudget.numbering import count_within, index_within, schedule_within
from mergebudget.optimum import least_work
from mergebudget.policies import least_writes, policy_schedule
from mergebudget.potentials import potentials, shows_remaining
from mergebudget.prices import corner_certificate, corners
from mergebudget.schedules import all_schedules, run_counts, stacks, writes
from mergebudget.states import best_merge, is_state, lifetime, next_state, remaining, state_of
from mergebudget.store import Store
from mergebudget.tables import shows_bound, table
from mergebudget.texts import read_schedule, read_store, show_schedule, show_store
from mergebudget.trees import edges, mirror, schedule_of, tree_of
from mergebudget.work import read_work, work, write_work
from tests.loads import load_pairs, random_loads, small_pairs
from tests.samples import assert_same, long_schedules, random_schedule
from tests.stores import outcome

INTERFACE = """
errors: MergeBudgetError, InvalidSchedule, InvalidTree, InvalidCount, InvalidIndex, InvalidBudget, OutsideBudget
errors: InvalidSizes, InvalidReads, InvalidState, InvalidMerge, InvalidPolicy, InvalidKey, InvalidValue, InvalidMoment
errors: InvalidText, InvalidLine, Exhausted, NothingToUndo
schedules: is_schedule, stacks, writes, run_counts, all_schedules
trees: is_tree, tree_of, schedule_of, edges, mirror
numbering: count_schedules, index_of, schedule_at, count_within, index_within, schedule_within
work: write_work, read_work, work
states: is_state, state_of, next_state, lifetime, remaining, best_merge
policies: least_writes, policy_merge, policy_runs, policy_schedule
potentials: potentials, shows_remaining
optimum: least_work, least_roots
tables: table, shows_bound
bounded: least_work_within, table_within, shows_bound_within
prices: corners, corner_certificate, shows_corners
store: Store
texts: show_schedule, read_schedule, show_store, read_store
desk: Desk
"""
LETTERS = "abcdefghijklmnopqrstuvwxyz"
UNKNOWN = "nowhere"


def key_of(number):
    """A key of its own for each number below 676."""
    return LETTERS[number // 26] + LETTERS[number % 26]


def followed(schedule, sizes, reads):
    """A store that follows a schedule: so many entries before each flush, so many reads of an unknown key behind it."""
    store = Store(("manual",))
    for flush, merge in enumerate(schedule):
        for number in range(sizes[flush]):
            store.put(key_of(number), flush)
        store.flush(merge)
        for turn in range(reads[flush]):
            store.read(UNKNOWN)
    return store


def few_loads():
    """Small loads of up to thirty flushes."""
    rng = random.Random(131)
    for n in range(8):
        for turn in range(6):
            yield random_loads(rng, n, 4), random_loads(rng, n, 4)
    for n in (15, 30, 60):
        yield random_loads(rng, n, 5), random_loads(rng, n, 5)


class InterfaceTest(unittest.TestCase):
    def test_every_name_stands_in_its_module(self):
        for line in INTERFACE.strip().split("\n"):
            module, names = line.split(": ")
            for name in names.split(", "):
                found = vars(importlib.import_module(f"mergebudget.{module}"))[name]
                self.assertTrue(callable(found))
                self.assertEqual(found.__module__, f"mergebudget.{module}")


class StoreWorkTest(unittest.TestCase):
    def test_a_store_that_follows_the_least_work(self):
        for sizes, reads in few_loads():
            least, schedule = least_work(sizes, reads)
            store = followed(schedule, sizes, reads)
            assert_same(self, store.sizes(), sizes)
            assert_same(self, store.schedule(), schedule)
            assert_same(self, store.written() + store.visited(), least)
            self.assertIs(shows_bound(sizes, reads, store.written() + store.visited(), table(sizes, reads)), True)

    def test_a_store_that_follows_the_least_work_within_budgets(self):
        for sizes, reads in few_loads():
            if len(sizes) > 7:
                continue
            for k, c in ((2, 2), (3, 3), (1, 7), (2, 4)):
                found = least_work_within(sizes, reads, k, c)
                if found is not None:
                    store = followed(found[1], sizes, reads)
                    assert_same(self, store.written() + store.visited(), found[0])
                    self.assertIs(is_state(store.state(), k, c), True)

    def test_written_and_visited_are_the_works(self):
        rng = random.Random(132)
        for schedule in long_schedules()[::5]:
            n = len(schedule)
            sizes, reads = random_loads(rng, n, 3), random_loads(rng, n, 3)
            store = followed(schedule, sizes, reads)
            assert_same(self, store.written(), write_work(schedule, sizes))
            assert_same(self, store.visited(), read_work(schedule, reads))
            assert_same(self, store.written() + store.visited(), work(schedule, sizes, reads))
            assert_same(self, store.stack(), stacks(schedule)[-1] if schedule else ())
            assert_same(self, store.state(), state_of(schedule))

    def test_mirrored_stores(self):
        rng = random.Random(133)
        short = [schedule for n in range(6) for schedule in all_schedules(n)]
        for schedule in short + long_schedules()[::9]:
            n = len(schedule)
            sizes, reads = random_loads(rng, n, 3), random_loads(rng, n, 3)
            store = followed(schedule, sizes, reads)
            other = followed(mirror(schedule), reads[::-1], sizes[::-1])
            assert_same(self, other.visited(), store.written())
            assert_same(self, other.written(), store.visited())

    def test_no_store_lies_below_the_corners(self):
        for n in range(6):
            for sizes, reads in small_pairs(n, n + 134)[:7]:
                if max(sizes + reads, default=0) > 20:
                    continue
                points = corners(sizes, reads)
                reached = set()
                for schedule in all_schedules(n):
                    store = followed(schedule, sizes, reads)
                    point = (store.written(), store.visited())
                    reached.add(point)
                    for one, two in zip(points, points[1:]):
                        x, y = one[1] - two[1], two[0] - one[0]
                        self.assertGreaterEqual(x * point[0] + y * point[1], x * one[0] + y * one[1])
                    self.assertGreaterEqual(point[0], points[0][0])
                    self.assertGreaterEqual(point[1], points[-1][1])
                self.assertLessEqual(set(points), reached)
                for schedule, point in zip(corner_certificate(sizes, reads)[0], points, strict=True):
                    store = followed(schedule, sizes, reads)
                    assert_same(self, (store.written(), store.visited()), point)


class LifetimeTest(unittest.TestCase):
    def survived(self, store, k, c):
        """How many flushes a store led by best_merge survives, each state within the budgets."""
        many = 0
        while (merge := best_merge(store.state(), k, c)) is not None:
            wanted = next_state(store.state(), merge, k, c)
            if outcome(lambda: store.flush(merge))[0] == "raises":
                break
            assert_same(self, store.state(), wanted)
            many += 1
        return many

    def test_a_store_led_by_the_best_merge(self):
        rng = random.Random(135)
        for turn in range(150):
            k, c = rng.choice(((1, 1), (2, 2), (3, 2), (2, 3), (3, 3), (4, 2), (2, 5), (1, 9), (5, 1)))
            store = Store(("manual",))
            for step in range(rng.randrange(8)):
                merges = [merge for merge in range(len(store.stack()) + 1) if allowed(store.state(), merge, k, c)]
                if merges:
                    store.flush(rng.choice(merges))
            left = remaining(store.state(), k, c)
            if k <= 4 and c <= 4:
                state = store.state()
                self.assertIs(shows_remaining(state, k, c, left, potentials(state, k, c)), True)
            self.assertEqual(self.survived(store, k, c), left)

    def test_a_store_within_budgets(self):
        for k, c in ((1, 1), (2, 2), (3, 2), (2, 3), (3, 3), (1, 5), (5, 1), (4, 2)):
            store = Store(("budget", k, c))
            desk = Desk(f"store budget {k} {c}\npending")
            for left in range(lifetime(k, c), 0, -1):
                assert_same(self, remaining(store.state(), k, c), left)
                assert_same(self, desk.say("remaining"), str(left))
                assert_same(self, desk.say("flush"), str(store.flush()))
            assert_same(self, desk.say("remaining"), "0")
            self.assertEqual(outcome(store.flush)[1], "Exhausted")
            schedule = store.schedule()
            self.assertEqual(count_within(len(schedule), k, c), 1)
            assert_same(self, schedule_within(len(schedule), k, c, 0), schedule)
            assert_same(self, index_within(schedule, k, c), 0)
            assert_same(self, policy_schedule(k, len(schedule)), schedule)

    def test_a_store_of_the_runs_policy_writes_as_little_as_possible(self):
        for k in (1, 2, 3, 5, 60):
            store = Store(("runs", k))
            for flush in range(60):
                store.flush()
                assert_same(self, max(writes(store.schedule())), least_writes(flush + 1, k))
                self.assertLessEqual(max(run_counts(store.schedule())), k)
            assert_same(self, store.schedule(), policy_schedule(k, 60))


def allowed(state, merge, k, c):
    return outcome(lambda: next_state(state, merge, k, c))[0] == "returns"


class TextTest(unittest.TestCase):
    def test_schedules_trees_and_texts_there_and_back(self):
        rng = random.Random(136)
        for turn in range(100):
            schedule = random_schedule(rng, rng.randint(0, 60), rng.choice((0, 3)))
            assert_same(self, read_schedule(show_schedule(schedule_of(tree_of(schedule)))), schedule)
            assert_same(self, tuple(left + 1 for left, right in edges(tree_of(schedule))), writes(schedule))
            assert_same(self, tuple(right + 1 for left, right in edges(tree_of(schedule))), run_counts(schedule))

    def test_a_desk_answers_what_the_functions_return(self):
        for sizes, reads in few_loads():
            least, schedule = least_work(sizes, reads)
            store = followed(schedule, sizes, reads)
            desk = Desk(show_store(store))
            assert_same(self, desk.say("text"), show_store(store).replace("\n", " / "))
            line = " ".join(["least"] + list(map(str, reads)))
            assert_same(self, desk.say(line), f"{least} {show_schedule(schedule)}")
            assert_same(self, desk.say("schedule"), show_schedule(schedule))
            assert_same(self, desk.say("written"), str(write_work(schedule, sizes)))
            assert_same(self, desk.say("visited"), "0")
            if schedule:
                assert_same(self, desk.say(f"read {UNKNOWN}"), "-")
                assert_same(self, desk.say("visited"), str(run_counts(schedule)[-1]))
            self.assertEqual(read_store(show_store(store)), store)


class MirrorTest(unittest.TestCase):
    def test_mirrored_problems(self):
        for n in range(6):
            for sizes, reads in load_pairs(n, n + 137)[::3]:
                least, schedule = least_work(sizes, reads)
                assert_same(self, work(mirror(schedule), reads[::-1], sizes[::-1]), least)
                assert_same(self, least_work(reads[::-1], sizes[::-1])[0], least)
                assert_same(self, writes(mirror(schedule))[::-1], run_counts(schedule))


if __name__ == "__main__":
    unittest.main()
