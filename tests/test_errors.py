import copy
import unittest

from mergebudget import errors
from tests.samples import fixed_values, random_values

WITH_VALUE = (
    "InvalidSchedule", "InvalidTree", "InvalidCount", "InvalidIndex", "InvalidBudget", "OutsideBudget",
    "InvalidSizes", "InvalidReads", "InvalidState", "InvalidMerge", "InvalidPolicy", "InvalidKey",
    "InvalidValue", "InvalidMoment", "InvalidText", "InvalidLine",
)  # fmt: skip
WITHOUT_VALUE = ("Exhausted", "NothingToUndo")


def created(name):
    kind = getattr(errors, name)
    return kind(7) if name in WITH_VALUE else kind()


class ErrorsTest(unittest.TestCase):
    def test_base_is_a_value_error(self):
        self.assertTrue(issubclass(errors.MergeBudgetError, ValueError))
        self.assertIsNot(errors.MergeBudgetError, ValueError)

    def test_each_is_a_direct_subclass_of_the_base(self):
        for name in WITH_VALUE + WITHOUT_VALUE:
            with self.subTest(name):
                self.assertEqual(getattr(errors, name).__bases__, (errors.MergeBudgetError,))
                self.assertEqual(getattr(errors, name).__name__, name)

    def test_each_is_of_its_own_class_only(self):
        names = WITH_VALUE + WITHOUT_VALUE
        self.assertEqual(len(names), 18)
        for name in names:
            error = created(name)
            self.assertIsInstance(error, errors.MergeBudgetError)
            self.assertIsInstance(error, ValueError)
            for other in names:
                with self.subTest(name, other=other):
                    self.assertEqual(isinstance(error, getattr(errors, other)), name == other)

    def test_value_of_any_kind_is_kept_unchanged(self):
        values = fixed_values() + random_values(100) + [0, (), (0, 1), (2, 0, -1)]
        for name in WITH_VALUE:
            for value in values:
                before = copy.deepcopy(value)
                error = getattr(errors, name)(value)
                self.assertIs(error.value, value)
                self.assertEqual(repr(value), repr(before))

    def test_each_object_has_its_own_value(self):
        for name in WITH_VALUE:
            first, second = getattr(errors, name)([1]), getattr(errors, name)("two")
            self.assertEqual(first.value, [1])
            self.assertEqual(second.value, "two")

    def test_each_is_raised_and_caught(self):
        for name in WITH_VALUE + WITHOUT_VALUE:
            for kind in (getattr(errors, name), errors.MergeBudgetError, ValueError):
                with self.subTest(name, kind=kind.__name__):
                    with self.assertRaises(kind) as caught:
                        raise created(name)
                    if name in WITH_VALUE:
                        self.assertEqual(caught.exception.value, 7)


if __name__ == "__main__":
    unittest.main()
