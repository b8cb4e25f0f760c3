"""Arguments of the functions of points 7 to 15: the order of errors, names, limits; the time of all calls."""

import copy
import inspect
import itertools
import random
import time
import unittest

from mergebudget.bounded import least_work_within, shows_bound_within, table_within
from mergebudget.desk import Desk
from mergebudget.errors import (
    InvalidBudget, InvalidCount, InvalidIndex, InvalidMerge, InvalidReads, InvalidSchedule, InvalidSizes, InvalidState,
    OutsideBudget,
)  # fmt: skip
from mergebudget.numbering import (
    count_schedules, count_within, index_of, index_within, schedule_at, schedule_within,
)  # fmt: skip
from mergebudget.optimum import least_roots, least_work
from mergebudget.policies import least_writes, policy_merge, policy_runs, policy_schedule
from mergebudget.potentials import potentials, shows_remaining
from mergebudget.prices import corner_certificate, corners, shows_corners
from mergebudget.states import best_merge, is_state, lifetime, next_state, remaining, state_of
from mergebudget.store import Store
from mergebudget.tables import shows_bound, table
from mergebudget.texts import read_schedule, read_store, show_schedule, show_store
from mergebudget.work import read_work, work, write_work
from tests.budgets import plain_is_state
from tests.loads import MOST_LOAD, changed_loads, plain_are_loads
from tests.samples import (
    assert_same, fixed_values, merges_everything, merges_nothing, plain_is_schedule, random_values,
)  # fmt: skip

SECONDS = 5
FAR = 10**18
CATALAN_60 = count_schedules(60)
ANY_KIND = fixed_values() + random_values(60)
TABLE = potentials((1, 1), 2, 2)


def wrong_counts(low, high):
    """Values of any kind that are no counts from low to high, the first ones beyond the limits among them."""
    values = [high + 1, high + 2, low - 1, 10**59, 0, 1, str(low), str(high), (high,), [low]] + ANY_KIND
    return [value for value in values if not (type(value) is int and max(low, 0) <= value <= high)]


def wrong_schedules():
    values = [merges_nothing(61), merges_everything(61), (1,), (0, 2), (0, True), [0, 0, 2]] + ANY_KIND
    return [value for value in values if not plain_is_schedule(value)]


def wrong_states(k, c):
    values = [(0,), (c + 1,), (1,) * (k + 1), (True,), [1, 1], (1, "1"), 1] + ANY_KIND
    return [value for value in values if not plain_is_state(value, k, c)]


def wrong_loads(loads, fewest, most):
    """Values of any kind and changed loads that are no loads of `fewest` to `most` flushes."""
    values = changed_loads(loads) + [(0,) * (most + 1), (MOST_LOAD + 1,) * len(loads), (0,) * 61, (0,) * 200]
    values.extend([(0,) * (fewest + 1), (0,) * max(0, fewest - 1), (0,) * most, (-1,) * fewest])
    return [value for value in values + ANY_KIND if not plain_are_loads(value, fewest, most)]


BUDGETS = [("k", InvalidBudget, wrong_counts(0, 60)), ("c", InvalidBudget, wrong_counts(0, 60))]
SMALL_BUDGETS = [("k", InvalidBudget, wrong_counts(0, 4)), ("c", InvalidBudget, wrong_counts(0, 4))]
RUNS = ("k", InvalidBudget, wrong_counts(1, 60))
FLUSHES = ("n", InvalidCount, wrong_counts(0, 60))
SCHEDULE = ("schedule", InvalidSchedule, wrong_schedules())
STATE = ("state", InvalidState, wrong_states(2, 2))
FAR_COUNT = ("n", InvalidCount, wrong_counts(0, FAR))
MOST_60 = (MOST_LOAD,) * 60
LOADS = {"sizes": (5, 1, 1), "reads": (1, 1, 2)}
READS = ("reads", InvalidReads, wrong_loads((1, 1, 2), 3, 3))
OWN_SIZES = ("sizes", InvalidSizes, wrong_loads((5, 1, 1), 3, 3))
SIZES = ("sizes", InvalidSizes, wrong_loads((5, 1, 1), 0, 60))
PRICED_SIZES = ("sizes", InvalidSizes, wrong_loads((5, 1, 1), 0, 24))
FEW_SIZES = ("sizes", InvalidSizes, wrong_loads((5, 1, 1), 0, 14))
TABLE_BUDGETS = [("k", InvalidBudget, wrong_counts(0, 8)), ("c", InvalidBudget, wrong_counts(0, 8))]
WITHIN = LOADS | {"k": 2, "c": 3}
BOUNDS = table((5, 1, 1), (1, 1, 2))
BOUNDS_WITHIN = table_within((5, 1, 1), (1, 1, 2), 2, 3)
CORNERS = {"points": corners((5, 1, 1), (1, 1, 2)), "value": corner_certificate((5, 1, 1), (1, 1, 2))}

# For each function: right arguments in their order, and the errors in the order of the document.
# The budgets (2, 2) allow the schedule and the state; wrong merges are wrong for that state.
CASES = [
    (count_schedules, {"n": 5}, [FLUSHES]),
    (index_of, {"schedule": (0, 0, 2)}, [SCHEDULE]),
    (schedule_at, {"n": 4, "index": 3}, [FLUSHES, ("index", InvalidIndex, wrong_counts(0, 13))]),
    (count_within, {"n": 4, "k": 2, "c": 3}, [FLUSHES] + BUDGETS),
    (index_within, {"schedule": (0, 0, 2), "k": 2, "c": 2}, [SCHEDULE] + BUDGETS),
    (
        schedule_within,
        {"n": 3, "k": 2, "c": 2, "index": 1},
        [FLUSHES] + BUDGETS + [("index", InvalidIndex, wrong_counts(0, 2))],
    ),
    (is_state, {"value": (2, 1), "k": 2, "c": 3}, BUDGETS),
    (state_of, {"schedule": (0, 0, 2, 0)}, [SCHEDULE]),
    (
        next_state,
        {"state": (1, 1), "merge": 1, "k": 2, "c": 2},
        BUDGETS + [STATE, ("merge", InvalidMerge, wrong_counts(1, 2))],
    ),
    (lifetime, {"k": 2, "c": 3}, BUDGETS),
    (remaining, {"state": (2, 1), "k": 2, "c": 2}, BUDGETS + [STATE]),
    (best_merge, {"state": (2, 1), "k": 2, "c": 2}, BUDGETS + [STATE]),
    (least_writes, {"n": 7, "k": 2}, [FAR_COUNT, RUNS]),
    (policy_merge, {"k": 3, "i": 12}, [RUNS, ("i", InvalidCount, wrong_counts(0, FAR))]),
    (policy_runs, {"k": 3, "n": 12}, [RUNS, FAR_COUNT]),
    (policy_schedule, {"k": 3, "n": 12}, [RUNS, FLUSHES]),
    (potentials, {"state": (1, 1), "k": 2, "c": 2}, SMALL_BUDGETS + [STATE]),
    (shows_remaining, {"state": (1, 1), "k": 2, "c": 2, "number": 3, "value": TABLE}, SMALL_BUDGETS + [STATE]),
    (write_work, {"schedule": (0, 0, 2), "sizes": (5, 1, 1)}, [SCHEDULE, OWN_SIZES]),
    (read_work, {"schedule": (0, 0, 2), "reads": (1, 1, 2)}, [SCHEDULE, READS]),
    (work, {"schedule": (0, 0, 2)} | LOADS, [SCHEDULE, OWN_SIZES, READS]),
    (least_work, LOADS, [SIZES, READS]),
    (least_roots, LOADS, [SIZES, READS]),
    (table, LOADS, [SIZES, READS]),
    (shows_bound, LOADS | {"bound": BOUNDS[0][-1], "value": BOUNDS}, [SIZES, READS]),
    (least_work_within, WITHIN, [FEW_SIZES, READS] + TABLE_BUDGETS),
    (table_within, WITHIN, [FEW_SIZES, READS] + TABLE_BUDGETS),
    (
        shows_bound_within,
        WITHIN | {"bound": BOUNDS_WITHIN[2][3][0][-1], "value": BOUNDS_WITHIN},
        [FEW_SIZES, READS] + TABLE_BUDGETS,
    ),
    (corners, LOADS, [PRICED_SIZES, READS]),
    (corner_certificate, LOADS, [PRICED_SIZES, READS]),
    (shows_corners, LOADS | CORNERS, [PRICED_SIZES, READS]),
]


def raised(call):
    """The error that a call raises, or None if it returns."""
    try:
        call()
    except ValueError as error:
        return error
    return None


class ErrorsTest(unittest.TestCase):
    def check(self, function, arguments, error, name):
        """By position and by names: this very error with this very value, and no argument changed."""
        before = copy.deepcopy(arguments)
        values = list(arguments.values())
        for call in (lambda: function(*values), lambda: function(**arguments)):
            found = raised(call)
            self.assertIs(type(found), error, (function.__name__, arguments))
            self.assertIs(found.value, arguments[name], (function.__name__, arguments))
        self.assertEqual(repr(arguments), repr(before))

    def test_one_wrong_argument(self):
        for function, right, checks in CASES:
            for name, error, wrongs in checks:
                self.assertGreater(len(wrongs), 50)
                for wrong in wrongs:
                    self.check(function, right | {name: wrong}, error, name)

    def test_several_wrong_arguments(self):
        rng = random.Random(20)
        for function, right, checks in CASES:
            for many in range(2, len(checks) + 1):
                for chosen in itertools.combinations(checks, many):
                    for turn in range(40):
                        arguments = right | {name: rng.choice(wrongs) for name, error, wrongs in chosen}
                        self.check(function, arguments, chosen[0][1], chosen[0][0])

    def test_values_of_any_kind_beside_wrong_arguments(self):
        rng = random.Random(22)
        for name, error, wrongs in SMALL_BUDGETS + [STATE]:
            for value in ANY_KIND:
                arguments = {"state": (1, 1), "k": 2, "c": 2, "number": rng.choice(ANY_KIND), "value": value}
                self.assertIs(shows_remaining(*arguments.values()), False)
                self.check(shows_remaining, arguments | {name: rng.choice(wrongs)}, error, name)
        for name, error, wrongs in BUDGETS:
            for value in ANY_KIND:
                self.check(is_state, {"value": value, "k": 2, "c": 2} | {name: rng.choice(wrongs)}, error, name)

    def test_bounds_and_tables_of_any_kind_beside_wrong_arguments(self):
        rng = random.Random(23)
        cases = [(shows_bound, LOADS, [SIZES, READS])]
        cases.append((shows_bound_within, WITHIN, [FEW_SIZES, READS] + TABLE_BUDGETS))
        for function, right, checks in cases:
            for value in ANY_KIND:
                arguments = right | {"bound": rng.choice(ANY_KIND), "value": value}
                self.assertIs(function(*arguments.values()), False)
                for name, error, wrongs in checks:
                    self.check(function, arguments | {name: rng.choice(wrongs)}, error, name)
        for value in ANY_KIND:
            arguments = LOADS | {"points": rng.choice(ANY_KIND), "value": value}
            self.assertIs(shows_corners(*arguments.values()), False)
            for name, error, wrongs in (PRICED_SIZES, READS):
                self.check(shows_corners, arguments | {name: rng.choice(wrongs)}, error, name)

    def test_sizes_and_reads_of_unequal_length(self):
        limits = {least_work: 60, least_roots: 60, table: 60, least_work_within: 14, table_within: 14, corners: 24}
        for function, most in (limits | {corner_certificate: 24}).items():
            more = {"k": 8, "c": 8} if most == 14 else {}
            for n, other in ((0, 1), (1, 0), (3, 2), (3, 4), (most, most - 1), (most - 1, most), (most, most + 1)):
                self.check(function, {"sizes": (1,) * n, "reads": (1,) * other} | more, InvalidReads, "reads")
            for other in (most, most + 1, 0):
                self.check(function, {"sizes": (1,) * (most + 1), "reads": (1,) * other} | more, InvalidSizes, "sizes")
        for schedule in ((), (0,), (0, 0, 2), merges_nothing(60)):
            for other in (len(schedule) + 1, max(0, len(schedule) - 1) if schedule else 2, 61):
                wrong, right = (1,) * other, (1,) * len(schedule)
                self.check(write_work, {"schedule": schedule, "sizes": wrong}, InvalidSizes, "sizes")
                self.check(read_work, {"schedule": schedule, "reads": wrong}, InvalidReads, "reads")
                self.check(work, {"schedule": schedule, "sizes": wrong, "reads": wrong}, InvalidSizes, "sizes")
                self.check(work, {"schedule": schedule, "sizes": right, "reads": wrong}, InvalidReads, "reads")

    def test_outside_the_budgets_comes_last(self):
        for schedule in ((0, 0, 0), (0, 1, 1), (0, 0, 0, 0, 0)):
            right = {"schedule": schedule, "k": 2, "c": 2}
            self.check(index_within, right, OutsideBudget, "schedule")
            for name, error, wrongs in BUDGETS:
                for wrong in wrongs:
                    self.check(index_within, right | {name: wrong}, error, name)

    def test_merge_that_leaves_the_budgets_comes_last(self):
        for merge in (0, 2, 3):
            right = {"state": (1, 2), "merge": merge, "k": 2, "c": 2}
            self.check(next_state, right, InvalidMerge, "merge")
            for name, error, wrongs in BUDGETS + [STATE]:
                for wrong in wrongs:
                    self.check(next_state, right | {name: wrong}, error, name)

    def test_state_depends_on_both_budgets(self):
        for function in (remaining, best_merge, potentials):
            self.check(function, {"state": (1, 1), "k": 1, "c": 2}, InvalidState, "state")
            self.check(function, {"state": (2, 1), "k": 2, "c": 1}, InvalidState, "state")
            self.check(function, {"state": (1,), "k": 0, "c": 0}, InvalidState, "state")
        self.check(next_state, {"state": (1, 1), "merge": None, "k": 1, "c": 2}, InvalidState, "state")

    def test_index_depends_on_the_other_arguments(self):
        self.check(schedule_within, {"n": 6, "k": 2, "c": 2, "index": 0}, InvalidIndex, "index")
        self.check(schedule_within, {"n": 1, "k": 0, "c": 60, "index": 0}, InvalidIndex, "index")
        self.check(schedule_within, {"n": 0, "k": 0, "c": 0, "index": 1}, InvalidIndex, "index")
        self.check(schedule_at, {"n": 0, "index": 1}, InvalidIndex, "index")
        self.check(schedule_at, {"n": 60, "index": CATALAN_60}, InvalidIndex, "index")

    def test_limits_themselves_are_right(self):
        calls = [
            lambda: count_schedules(60), lambda: index_of(merges_nothing(60)), lambda: schedule_at(60, CATALAN_60 - 1),
            lambda: count_within(60, 60, 60), lambda: count_within(0, 0, 0),
            lambda: index_within(merges_nothing(60), 60, 1), lambda: schedule_within(60, 60, 60, CATALAN_60 - 1),
            lambda: is_state(None, 60, 60), lambda: is_state(None, 0, 0),
            lambda: state_of(merges_nothing(60)), lambda: next_state((60,), 0, 60, 60), lambda: lifetime(60, 60),
            lambda: lifetime(0, 0), lambda: remaining((), 60, 60), lambda: best_merge((), 60, 60),
            lambda: least_writes(FAR, 60), lambda: least_writes(FAR, 1), lambda: least_writes(0, 1),
            lambda: policy_merge(60, FAR), lambda: policy_merge(1, 0), lambda: policy_runs(60, FAR),
            lambda: policy_schedule(60, 60), lambda: policy_schedule(1, 0), lambda: potentials((), 4, 4),
            lambda: potentials((), 0, 0), lambda: shows_remaining((), 4, 4, None, None),
            lambda: work(merges_nothing(60), MOST_60, MOST_60), lambda: work((), (), ()),
            lambda: least_work(MOST_60, MOST_60), lambda: least_roots(MOST_60, MOST_60), lambda: least_work((), ()),
            lambda: table(MOST_60, MOST_60), lambda: shows_bound(MOST_60, MOST_60, None, None),
            lambda: least_work_within(MOST_60[:14], MOST_60[:14], 8, 8), lambda: least_work_within((), (), 0, 0),
            lambda: table_within(MOST_60[:14], MOST_60[:14], 8, 8), lambda: table_within((), (), 0, 0),
            lambda: shows_bound_within(MOST_60[:14], MOST_60[:14], 8, 8, None, None),
            lambda: corners(MOST_60[:24], MOST_60[:24]), lambda: corner_certificate(MOST_60[:24], MOST_60[:24]),
            lambda: shows_corners(MOST_60[:24], MOST_60[:24], None, None), lambda: corners((), ()),
        ]  # fmt: skip
        for call in calls:
            self.assertIsNone(raised(call))


class NamesTest(unittest.TestCase):
    def test_parameters_as_the_document_names_them(self):
        for function, right, checks in CASES:
            self.assertEqual(list(inspect.signature(function).parameters), list(right), function.__name__)

    def test_names_in_any_order(self):
        for function, right, checks in CASES:
            before = copy.deepcopy(right)
            wanted = function(*right.values())
            for names in itertools.permutations(right):
                assert_same(self, function(**{name: right[name] for name in names}), wanted)
            for many in range(len(right)):
                front = list(right.values())[:many]
                behind = {name: right[name] for name in reversed(list(right)[many:])}
                assert_same(self, function(*front, **behind), wanted)
            assert_same(self, function(*right.values()), wanted)
            self.assertEqual(repr(right), repr(before))


class TimeTest(unittest.TestCase):
    def check(self, function, *arguments):
        start = time.perf_counter()
        function(*arguments)
        self.assertLess(time.perf_counter() - start, SECONDS, (function.__name__, arguments))

    def test_numbering(self):
        self.check(count_schedules, 60)
        for schedule in (merges_nothing(60), merges_everything(60), schedule_at(60, CATALAN_60 // 2)):
            self.check(index_of, schedule)
            self.check(index_within, schedule, 60, 60)
        for k, c in ((60, 60), (30, 30), (12, 12), (60, 20), (20, 60), (60, 2), (2, 60), (5, 5)):
            self.check(count_within, 60, k, c)
            for index in (0, count_within(60, k, c) // 2, count_within(60, k, c) - 1):
                self.check(schedule_within, 60, k, c, index)
        for index in (0, CATALAN_60 // 2, CATALAN_60 - 1):
            self.check(schedule_at, 60, index)

    def test_states(self):
        for state in ((), (1,) * 60, (60,) * 60, tuple(range(60, 0, -1)), tuple(range(1, 61))):
            for function in (remaining, best_merge):
                self.check(function, state, 60, 60)
            self.check(is_state, state, 60, 60)
        self.check(next_state, (1,) * 60, 60, 60, 60)
        self.check(state_of, merges_everything(60))
        self.check(lifetime, 60, 60)

    def test_policies(self):
        for k in (1, 2, 3, 10, 30, 59, 60):
            for n in (FAR, FAR - 1, FAR // 2, 10**9, 60, 0):
                self.check(least_writes, n, k)
                self.check(policy_merge, k, n)
                self.check(policy_runs, k, n)
            self.check(policy_schedule, k, 60)

    def test_potentials(self):
        for state in ((), (1,), (1, 1, 1, 1)):
            self.check(potentials, state, 4, 4)
            self.check(shows_remaining, state, 4, 4, remaining(state, 4, 4), potentials(state, 4, 4))
        self.check(shows_remaining, (), 4, 4, 69, potentials((), 4, 4) * 50)

    def test_work(self):
        for schedule in (merges_nothing(60), merges_everything(60), schedule_at(60, CATALAN_60 // 2)):
            self.check(work, schedule, MOST_60, MOST_60)

    def test_optimum_and_tables(self):
        for sizes, reads in ((MOST_60, MOST_60), ((0,) * 60, (0,) * 60), (tuple(range(60)), (1,) * 60)):
            for function in (least_work, least_roots, table):
                self.check(function, sizes, reads)
            rows = table(sizes, reads)
            self.check(shows_bound, sizes, reads, rows[0][-1], rows)
            self.check(shows_bound, sizes, reads, rows[0][-1], rows * 50)
            self.check(shows_bound, sizes, reads, rows[0][-1], (rows,) * 61)

    def test_bounded(self):
        for sizes, reads in ((MOST_60[:14], MOST_60[:14]), ((0,) * 14, (0,) * 14), (tuple(range(14)), (1,) * 14)):
            for function in (least_work_within, table_within):
                for k, c in ((8, 8), (4, 4), (8, 2), (2, 8)):
                    self.check(function, sizes, reads, k, c)
            grid = table_within(sizes, reads, 8, 8)
            self.check(shows_bound_within, sizes, reads, 8, 8, grid[8][8][0][-1], grid)
            self.check(shows_bound_within, sizes, reads, 8, 8, 0, grid * 50)

    def test_prices(self):
        rng = random.Random(24)
        pairs = [(MOST_60[:24], MOST_60[:24]), ((0,) * 24, (0,) * 24), (tuple(range(24)), (1,) * 24)]
        for most in (3, 1000, MOST_LOAD):
            pairs.append(tuple(tuple(rng.randint(0, most) for flush in range(24)) for kind in range(2)))
        # Powers of two make the points of many schedules corners.
        pairs.append((tuple(2**flush for flush in range(24)), tuple(2 ** (23 - flush) for flush in range(24))))
        for sizes, reads in pairs:
            self.check(corners, sizes, reads)
            self.check(corner_certificate, sizes, reads)
            points, paper = corners(sizes, reads), corner_certificate(sizes, reads)
            self.check(shows_corners, sizes, reads, points, paper)
            self.check(shows_corners, sizes, reads, points * 100, paper)

    def test_store_and_texts(self):
        for policy in (("manual",), ("runs", 60), ("runs", 2), ("budget", 60, 60)):
            store = Store(policy)
            for flush in range(60):
                for letter in "abcdefghijklmnopqrstuvwxyz":
                    store.put(letter * (1 + flush % 8), 10**59 + flush)
                self.check(store.flush, *([0] if policy == ("manual",) else []))
            for call in (store.stack, store.state, store.written, store.present, store.pending, store.copy):
                self.check(call)
            self.check(store.read, "unknown")
            self.check(lambda: store.read("unknown", moment=60))
            self.check(lambda: store.present(moment=60))
            self.check(show_store, store)
            self.check(read_store, show_store(store))
            desk = Desk(show_store(store))
            for line in ("least" + " 1000000000" * 60, "text", "stack", "remaining", "written", "read unknown"):
                self.check(desk.say, line)
            self.check(lambda: [store.undo() for step in range(60 * 27)])
        self.check(show_schedule, merges_everything(60))
        self.check(read_schedule, show_schedule(merges_everything(60)))

    def test_long_lines(self):
        texts = ["0 " * 200000 + "0", "9" * 1000000, "store manual" + "\nflush 0" * 100000, " " * 500000, "\n" * 500000]
        for text in texts:
            self.check(lambda: raised(lambda: read_schedule(text)))
            self.check(lambda: raised(lambda: read_store(text)))
            self.check(lambda: raised(lambda: read_store("store manual\npending " + text)))
            for word in ("put a ", "least ", "flush ", "read ", ""):
                self.check(lambda: raised(lambda: Desk().say(word + text)))


if __name__ == "__main__":
    unittest.main()
