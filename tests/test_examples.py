"""The examples of the document, as they are printed there."""

import doctest
import unittest

SCHEDULES = """
>>> from mergebudget.schedules import is_schedule
>>> [is_schedule((0, 1, 0)), is_schedule((1,)), is_schedule([0])]
[True, False, False]

>>> from mergebudget.schedules import stacks
>>> stacks((0, 0, 2))
(((0, 1),), ((0, 1), (1, 2)), ((0, 3),))

>>> from mergebudget.schedules import writes
>>> writes((0, 0, 2))
(2, 2, 1)

>>> from mergebudget.schedules import run_counts
>>> run_counts((0, 0, 2))
(1, 2, 1)

>>> from mergebudget.schedules import all_schedules
>>> all_schedules(3)
((0, 0, 0), (0, 0, 1), (0, 0, 2), (0, 1, 0), (0, 1, 1))
"""

TREES = """
>>> from mergebudget.trees import is_tree
>>> [is_tree((2, 0, -1)), is_tree((1, 2, -1)), is_tree((-1, -1)), is_tree(())]
[True, True, False, True]

>>> from mergebudget.trees import tree_of
>>> tree_of((0, 0, 2))
(2, 0, -1)

>>> from mergebudget.trees import schedule_of
>>> schedule_of((2, 0, -1))
(0, 0, 2)

>>> from mergebudget.trees import edges
>>> edges((2, 0, -1))
((1, 0), (1, 1), (0, 0))

>>> from mergebudget.trees import mirror
>>> mirror((0, 0, 2))
(0, 0, 1)
"""


class ExamplesTest(unittest.TestCase):
    def check(self, name, text):
        """Each printed block is run on its own, so that none leans on another's imports."""
        blocks = text.strip().split("\n\n")
        self.assertEqual(len(blocks), 5)
        for block in blocks:
            told = []
            example = doctest.DocTestParser().get_doctest(block + "\n", {}, name, None, None)
            result = doctest.DocTestRunner(verbose=False).run(example, out=told.append)
            self.assertEqual(result.attempted, 2)
            self.assertEqual(result.failed, 0, "".join(told))

    def test_schedules(self):
        self.check("schedules", SCHEDULES)

    def test_trees(self):
        self.check("trees", TREES)


if __name__ == "__main__":
    unittest.main()
