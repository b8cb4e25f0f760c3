"""The examples of the document, as they are printed there."""

import unittest

SCHEDULES = """
>>> from mergebudget.schedules import is_schedule
>>> [is_schedule((0, 1, 0)), is_schedule((1,)), is_schedule([0])]
[True, False, False]

>>> from mergebudget.schedules import stacks
>>> stacks((0, 0, 2))
(((0, 1),), ((0, 1), (1, 2)), ((0, 3),))

>>> from mergebudget.schedules import writes
>>> writes((0, 0, 2))
(2, 2, 1)

>>> from mergebudget.schedules import run_counts
>>> run_counts((0, 0, 2))
(1, 2, 1)

>>> from mergebudget.schedules import all_schedules
>>> all_schedules(3)
((0, 0, 0), (0, 0, 1), (0, 0, 2), (0, 1, 0), (0, 1, 1))
"""

TREES = """
>>> from mergebudget.trees import is_tree
>>> [is_tree((2, 0, -1)), is_tree((1, 2, -1)), is_tree((-1, -1)), is_tree(())]
[True, True, False, True]

>>> from mergebudget.trees import tree_of
>>> tree_of((0, 0, 2))
(2, 0, -1)

>>> from mergebudget.trees import schedule_of
>>> schedule_of((2, 0, -1))
(0, 0, 2)

>>> from mergebudget.trees import edges
>>> edges((2, 0, -1))
((1, 0), (1, 1), (0, 0))

>>> from mergebudget.trees import mirror
>>> mirror((0, 0, 2))
(0, 0, 1)
"""


NUMBERING = """
>>> from mergebudget.numbering import count_schedules
>>> [count_schedules(0), count_schedules(1), count_schedules(3), count_schedules(4)]
[1, 1, 5, 14]

>>> from mergebudget.numbering import index_of
>>> index_of((0, 0, 2))
2

>>> from mergebudget.numbering import schedule_at
>>> schedule_at(3, 2)
(0, 0, 2)

>>> from mergebudget.numbering import count_within
>>> [count_within(3, 2, 2), count_within(5, 2, 2), count_within(6, 2, 2)]
[3, 1, 0]

>>> from mergebudget.numbering import index_within
>>> index_within((0, 0, 2), 2, 2)
2

>>> from mergebudget.numbering import schedule_within
>>> schedule_within(3, 2, 2, 2)
(0, 0, 2)
"""

STATES = """
>>> from mergebudget.states import is_state
>>> [is_state((2, 1), 2, 2), is_state((2, 1, 1), 2, 2), is_state((3,), 2, 2), is_state((), 0, 0)]
[True, False, False, True]

>>> from mergebudget.states import state_of
>>> state_of((0, 0, 2, 0))
(2, 1)

>>> from mergebudget.states import next_state
>>> next_state((1, 1), 2, 2, 2)
(2,)

>>> from mergebudget.states import next_state
>>> next_state((1, 1), 0, 2, 2)
raises InvalidMerge(value=0)

>>> from mergebudget.states import lifetime
>>> [lifetime(2, 2), lifetime(1, 3), lifetime(0, 5)]
[5, 3, 0]

>>> from mergebudget.states import remaining
>>> [remaining((), 2, 2), remaining((1,), 2, 2), remaining((1, 1), 2, 2), remaining((1, 2), 2, 2)]
[5, 4, 3, 0]

>>> from mergebudget.states import best_merge
>>> [best_merge((1,), 2, 2), best_merge((1, 1), 2, 2), best_merge((1, 2), 2, 2)]
[0, 2, None]
"""

POLICIES = """
>>> from mergebudget.policies import least_writes
>>> [least_writes(0, 2), least_writes(5, 2), least_writes(6, 2)]
[0, 2, 3]

>>> from mergebudget.policies import policy_merge
>>> [policy_merge(2, 0), policy_merge(2, 1), policy_merge(2, 2), policy_merge(2, 3), policy_merge(2, 4), policy_merge(2, 5)]
[0, 0, 2, 0, 1, 2]

>>> from mergebudget.policies import policy_runs
>>> [policy_runs(2, 5), policy_runs(2, 6), policy_runs(3, 0)]
[(3, 2), (6,), ()]

>>> from mergebudget.policies import policy_schedule
>>> policy_schedule(2, 5)
(0, 0, 2, 0, 1)
"""

POTENTIALS = """
>>> from mergebudget.potentials import potentials
>>> potentials((1, 1), 2, 2)
(((1, 1), 3), ((1, 2), 0), ((2,), 2), ((2, 1), 1), ((2, 2), 0))

>>> from mergebudget.potentials import potentials, shows_remaining
>>> rows = potentials((1, 1), 2, 2)
>>> [shows_remaining((1, 1), 2, 2, 3, rows), shows_remaining((1, 1), 2, 2, 2, rows), shows_remaining((2,), 2, 2, 2, rows)]
[True, False, True]
"""

WORK = """
>>> from mergebudget.work import write_work
>>> write_work((0, 0, 1), (5, 1, 1))
8

>>> from mergebudget.work import read_work
>>> read_work((0, 0, 1), (1, 1, 1))
5

>>> from mergebudget.work import work
>>> work((0, 0, 1), (5, 1, 1), (1, 1, 1))
13
"""

OPTIMUM = """
>>> from mergebudget.optimum import least_work
>>> least_work((5, 1, 1), (1, 1, 1))
(13, (0, 0, 0))

>>> from mergebudget.optimum import least_roots
>>> least_roots((5, 1, 1), (1, 1, 1))
((0, 0, 0), (1, 1), (2,))
"""

TABLES = """
>>> from mergebudget.tables import table
>>> table((5, 1, 1), (1, 1, 1))
((0, 6, 9, 13), (0, 2, 5), (0, 2), (0,))

>>> from mergebudget.tables import shows_bound, table
>>> rows = table((5, 1, 1), (1, 1, 1))
>>> [shows_bound((5, 1, 1), (1, 1, 1), 13, rows), shows_bound((5, 1, 1), (1, 1, 1), 14, ((0, 6, 9, 14), (0, 2, 5), (0, 2), (0,)))]
[True, False]
"""

BOUNDED = """
>>> from mergebudget.bounded import least_work_within
>>> [least_work_within((5, 1, 1), (1, 1, 1), 2, 2), least_work_within((5, 1, 1), (1, 1, 1), 1, 2)]
[(13, (0, 0, 1)), None]

>>> from mergebudget.bounded import table_within
>>> table_within((5, 1), (1, 1), 1, 1)
((((0, None, None), (0, None), (0,)), ((0, None, None), (0, None), (0,))), (((0, None, None), (0, None), (0,)), ((0, 6, None), (0, 2), (0,))))

>>> from mergebudget.bounded import shows_bound_within, table_within
>>> rows = table_within((5, 1), (1, 1), 1, 2)
>>> [shows_bound_within((5, 1), (1, 1), 1, 2, 13, rows), shows_bound_within((5, 1), (1, 1), 1, 2, 14, rows)]
[True, False]
"""

PRICES = """
>>> from mergebudget.prices import corners
>>> corners((5, 1, 1), (1, 1, 1))
((7, 6), (8, 5), (12, 4), (18, 3))

>>> from mergebudget.prices import corner_certificate, corners, shows_corners
>>> points = corners((5, 1, 1), (1, 1, 1))
>>> paper = corner_certificate((5, 1, 1), (1, 1, 1))
>>> [shows_corners((5, 1, 1), (1, 1, 1), points, paper), shows_corners((5, 1, 1), (1, 1, 1), points[1:], paper)]
[True, False]
"""

STORE = """
>>> from mergebudget.store import Store
>>> store = Store(("budget", 2, 2))
>>> store.put("a", 1)
>>> first = store.flush()
>>> store.delete("a")
>>> second = store.flush()
>>> store.put("b", 7)
>>> third = store.flush()
>>> [third, store.stack(), store.state(), store.schedule(), store.sizes(), store.written()]
[2, ((0, 3),), (2,), (0, 0, 2), (1, 1, 1), 5]

>>> from mergebudget.store import Store
>>> store = Store(("manual",))
>>> store.put("a", 1)
>>> first = store.flush(merge=0)
>>> store.put("a", 2)
>>> second = store.flush(merge=0)
>>> store.delete("a")
>>> [store.read("a"), store.read("a", moment=2), store.read("a", moment=1), store.read("a", moment=0), store.visited(), store.present(), store.present(moment=1)]
[None, 2, 1, None, 2, (), ('a',)]

>>> from mergebudget.store import Store
>>> Store(("manual",)).flush()
raises InvalidMerge(value=None)
"""

TEXTS = r"""
>>> from mergebudget.texts import show_schedule
>>> [show_schedule((0, 0, 2)), show_schedule(())]
['0 0 2', '-']

>>> from mergebudget.texts import read_schedule
>>> read_schedule("0 0 2")
(0, 0, 2)

>>> from mergebudget.texts import read_schedule
>>> read_schedule("0 2")
raises InvalidText(value=0)

>>> from mergebudget.store import Store
>>> from mergebudget.texts import show_store
>>> store = Store(("runs", 2))
>>> store.put("b", -3)
>>> store.delete("a")
>>> first = store.flush()
>>> store.put("c", 0)
>>> show_store(store)
'store runs 2\nflush 0 a=- b=-3\npending c=0'

>>> from mergebudget.texts import read_store
>>> store = read_store("store manual\nflush 0 a=1\nflush 1 a=-\npending")
>>> [store.read("a", moment=1), store.read("a"), store.stack()]
[1, None, ((0, 2),)]

>>> from mergebudget.texts import read_store
>>> read_store("store runs 2\nflush 0\nflush 1\npending")
raises InvalidText(value=2)
"""

DESK = r"""
>>> from mergebudget.desk import Desk
>>> desk = Desk("store budget 2 2\npending")
>>> done = desk.say("put a 1")
>>> first = desk.say("flush")
>>> second = desk.say("flush")
>>> [first, second, desk.say("stack"), desk.say("remaining"), desk.say("read a 1"), desk.say("least 1 1")]
['0', '0', '0..1 1..2', '3', '1', '4 0 0']

>>> from mergebudget.desk import Desk
>>> Desk().say("flush 1")
raises InvalidMerge(value=1)
"""


def printed(statements):
    """What the document prints behind the last of these statements: its value, or the error that it raises."""
    names = {}
    for statement in statements[:-1]:
        exec(statement, names)
    try:
        return repr(eval(statements[-1], names))
    except ValueError as error:
        return f"raises {type(error).__name__}(value={error.value!r})"


class ExamplesTest(unittest.TestCase):
    def check(self, text, many):
        """Each printed block is run on its own, so that none leans on another's imports."""
        blocks = text.strip().split("\n\n")
        self.assertEqual(len(blocks), many)
        for block in blocks:
            *lines, wanted = block.split("\n")
            self.assertTrue(len(lines) > 1 and all(line.startswith(">>> ") for line in lines), block)
            self.assertEqual(printed([line[4:] for line in lines]), wanted, block)

    def test_schedules(self):
        self.check(SCHEDULES, 5)

    def test_trees(self):
        self.check(TREES, 5)

    def test_numbering(self):
        self.check(NUMBERING, 6)

    def test_states(self):
        self.check(STATES, 7)

    def test_policies(self):
        self.check(POLICIES, 4)

    def test_potentials(self):
        self.check(POTENTIALS, 2)

    def test_work(self):
        self.check(WORK, 3)

    def test_optimum(self):
        self.check(OPTIMUM, 2)

    def test_tables(self):
        self.check(TABLES, 2)

    def test_bounded(self):
        self.check(BOUNDED, 3)

    def test_prices(self):
        self.check(PRICES, 2)

    def test_store(self):
        self.check(STORE, 3)

    def test_texts(self):
        self.check(TEXTS, 6)

    def test_desk(self):
        self.check(DESK, 2)


if __name__ == "__main__":
    unittest.main()
