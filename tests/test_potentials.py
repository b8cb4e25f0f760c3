import copy
import itertools
import random
import unittest

from mergebudget.potentials import potentials, shows_remaining
from mergebudget.states import remaining
from tests.budgets import (
    all_states, plain_afters, plain_is_state, plain_potentials, plain_reached, plain_remaining,
)  # fmt: skip
from tests.samples import assert_bool, assert_same, fixed_values, random_values

SMALL_BUDGETS = list(itertools.product(range(4), repeat=2)) + [(4, 2), (2, 4), (4, 1), (1, 4), (4, 0), (0, 4)]


def plain_shows(state, k, c, number, value):
    """Whether a value is a potential table with this number, by the words of point 11."""
    if type(value) is not tuple or type(number) is not int:
        return False
    for row in value:
        if type(row) is not tuple or len(row) != 2 or not plain_is_state(row[0], k, c):
            return False
        if type(row[1]) is not int or row[1] < 0:
            return False
    states = [row[0] for row in value]
    if list(value) != sorted(value) or len(set(states)) != len(states):
        return False
    listed = dict(value)
    for one, many in value:
        afters = plain_afters(one, k, c)
        if any(after not in listed or listed[after] >= many for after in afters):
            return False
        if many > 0 and many - 1 not in [listed[after] for after in afters]:
            return False
    return state in listed and listed[state] == number


def small_cases():
    """States within small budgets, each with its budgets, its table and its number."""
    for k, c in SMALL_BUDGETS:
        for state in all_states(k, c):
            yield state, k, c, plain_potentials(state, k, c), plain_remaining(state, k, c)


def great_cases():
    """Some states within the greatest budgets."""
    for k, c in ((4, 4), (4, 3), (3, 4)):
        states = all_states(k, c)
        for state in [(), (1,), (1, 1, 1), (c,), (2, 1), (c,) * k, (1,) * k] + states[5::40]:
            yield state, k, c, plain_potentials(state, k, c), plain_remaining(state, k, c)


def changed_tables(table, k, c):
    """Variants of a table with one thing changed, at every row."""
    found = [list(table), dict(table), str(table), (table,), table[:-1], table[1:], table[::-1], ()]
    found.extend(table + (row,) for row in ((), None, ((c + 1,), 0), ((1,) * (k + 1), 0)))
    found.append((0,) + table)
    for at, (state, number) in enumerate(table):
        front, behind = table[:at], table[at + 1 :]
        rows = [
            (state, number + 1), (state, number - 1), (state, 0), (state, 1), (state, -1), (state, True),
            (state, False), (state, None), (state, str(number)), (state, (number,)), (state, [number]),
            (state, 10**59), (state, bool(number)), (list(state), number), (str(state), number), (None, number),
            (len(state), number), ({}, number), (state + (1,), number), (state[:-1], number), (state + (c,), number),
            (state[1:], number), ((state,), number), ((True,) + state[1:], number), (state[:-1] + (True,), number),
            (state[:-1] + (0,), number), (state[:-1] + (c + 1,), number), (state[:-1] + (c,), number),
            (state[:-1] + (1,), number), [state, number], (state,), (state, number, 0), (number, state), state,
            number, None, {state: number}, "", (),
        ]  # fmt: skip
        found.extend(front + (row,) + behind for row in rows)
        found.append(front + behind)
        found.append(front + ((state, number),) * 2 + behind)
        found.append(front + ((state, number), (state, number + 1)) + behind)
        if behind:
            found.append(front + behind[:1] + ((state, number),) + behind[1:])
            found.append(front + ((state, behind[0][1]), (behind[0][0], number)) + behind[1:])
    return found


class PotentialsTest(unittest.TestCase):
    def test_against_a_search(self):
        for state, k, c, table, number in itertools.chain(small_cases(), great_cases()):
            assert_same(self, potentials(state, k, c), table)
            self.assertIn((state, number), table)

    def test_numbers_are_what_remaining_returns(self):
        for k, c in ((4, 4), (3, 4), (4, 3), (2, 3)):
            for state, number in potentials((), k, c):
                assert_same(self, number, remaining(state, k, c))

    def test_ascending_and_each_state_once(self):
        rows = potentials((), 4, 4)
        self.assertEqual([state for state, number in rows], plain_reached((), 4, 4))
        self.assertTrue(all(row[0] < later[0] for row, later in zip(rows, rows[1:])))

    def test_tables_of_one_row(self):
        assert_same(self, potentials((), 0, 0), (((), 0),))
        assert_same(self, potentials((), 0, 4), (((), 0),))
        assert_same(self, potentials((), 4, 0), (((), 0),))
        assert_same(self, potentials((4,), 1, 4), (((4,), 0),))
        assert_same(self, potentials((4,) * 4, 4, 4), (((4,) * 4, 0),))


class ShowsRemainingTest(unittest.TestCase):
    def test_own_tables(self):
        for state, k, c, table, number in itertools.chain(small_cases(), great_cases()):
            self.assertTrue(plain_shows(state, k, c, number, table))
            self.assertIs(shows_remaining(state, k, c, number, potentials(state, k, c)), True)

    def test_every_state_of_a_table(self):
        for k, c in ((2, 2), (3, 3), (4, 4), (2, 4)):
            rows = potentials((), k, c)
            for state, number in rows[::3]:
                self.assertIs(shows_remaining(state, k, c, number, rows), True)
                self.assertIs(shows_remaining(state, k, c, number + 1, rows), False)

    def test_larger_tables(self):
        rng = random.Random(16)
        for k, c in ((2, 2), (3, 2), (2, 3), (3, 3), (4, 4)):
            states = all_states(k, c)
            whole = tuple((state, plain_remaining(state, k, c)) for state in sorted(states))
            for state in rng.sample(states, 5):
                number = plain_remaining(state, k, c)
                self.assertIs(shows_remaining(state, k, c, number, whole), True)
                other = plain_potentials(rng.choice(states), k, c)
                joined = tuple(sorted(set(other + plain_potentials(state, k, c))))
                self.assertIs(shows_remaining(state, k, c, number, joined), True)

    def test_further_state_that_is_not_followed(self):
        rows = potentials((2,), 2, 2)
        assert_same(self, rows, (((2,), 2), ((2, 1), 1), ((2, 2), 0)))
        self.assertIs(shows_remaining((2,), 2, 2, 2, (((1, 2), 0),) + rows), True)
        self.assertIs(shows_remaining((2,), 2, 2, 2, (((1, 2), 1),) + rows), False)
        self.assertIs(shows_remaining((2,), 2, 2, 2, (((1,), 4),) + rows), False)
        self.assertIs(shows_remaining((2,), 2, 2, 2, (((1, 1), 3),) + rows), False)

    def test_state_that_is_not_listed(self):
        rows = potentials((2,), 2, 2)
        for state, number in (((), 5), ((1,), 4), ((1, 1), 3), ((1, 2), 0)):
            self.assertIs(shows_remaining(state, 2, 2, number, rows), False)
            self.assertIs(shows_remaining(state, 2, 2, 2, rows), False)
            self.assertIs(shows_remaining(state, 2, 2, number, ()), False)

    def test_one_thing_changed(self):
        cases = [case for case in small_cases() if len(case[3]) <= 12][::3]
        cases.append(((), 2, 2, plain_potentials((), 2, 2), 5))
        cases.append(((), 3, 2, plain_potentials((), 3, 2), 9))
        cases.append(((), 2, 3, plain_potentials((), 2, 3), 9))
        accepted = 0
        for state, k, c, table, number in cases:
            for value in changed_tables(table, k, c):
                before = copy.deepcopy(value)
                found = shows_remaining(state, k, c, number, value)
                assert_bool(self, found, plain_shows(state, k, c, number, value), (state, k, c, number, value))
                self.assertEqual(repr(value), repr(before))
                accepted += found
        self.assertGreater(accepted, 0)

    def test_one_thing_changed_in_a_great_table(self):
        rng = random.Random(18)
        table = potentials((), 4, 3)
        for value in rng.sample(changed_tables(table, 4, 3), 1500):
            found = shows_remaining((), 4, 3, 34, value)
            assert_bool(self, found, plain_shows((), 4, 3, 34, value), value)

    def test_all_small_tables_with_all_claims(self):
        for k, c in ((1, 1), (1, 2), (2, 1), (1, 3)):
            states = sorted(all_states(k, c))
            for numbers in itertools.product((None, 0, 1, 2, 3), repeat=len(states)):
                table = tuple((state, number) for state, number in zip(states, numbers) if number is not None)
                for state, claim in itertools.product(states, range(4)):
                    found = shows_remaining(state, k, c, claim, table)
                    assert_bool(self, found, plain_shows(state, k, c, claim, table), (state, k, c, claim, table))

    def test_claims_that_fit_a_changed_table(self):
        for k, c in ((2, 2), (3, 2), (2, 3)):
            for value in changed_tables(potentials((), k, c), k, c):
                listed = value if type(value) is tuple else ()
                for row in listed:
                    if type(row) is tuple and len(row) == 2 and plain_is_state(row[0], k, c):
                        state, claim = row
                        found = shows_remaining(state, k, c, claim, value)
                        assert_bool(self, found, plain_shows(state, k, c, claim, value), (state, k, c, claim, value))

    def test_equal_numbers_are_not_smaller(self):
        self.assertIs(shows_remaining((1,), 1, 2, 1, (((1,), 1), ((2,), 0))), True)
        self.assertIs(shows_remaining((1,), 1, 2, 0, (((1,), 0), ((2,), 0))), False)
        self.assertIs(shows_remaining((1,), 1, 2, 2, (((1,), 2), ((2,), 0))), False)
        self.assertIs(shows_remaining((1,), 1, 2, 2, (((1,), 2), ((2,), 1))), False)
        self.assertIs(shows_remaining((2,), 1, 2, 1, (((2,), 1),)), False)

    def test_budgets_of_another_table(self):
        rows = potentials((), 3, 3)
        for k, c in itertools.product(range(5), repeat=2):
            for number in (plain_remaining((), k, c), 19):
                assert_bool(self, shows_remaining((), k, c, number, rows), plain_shows((), k, c, number, rows), (k, c))
        self.assertIs(shows_remaining((), 3, 3, 19, rows), True)
        self.assertIs(shows_remaining((), 3, 4, 19, rows), False)
        self.assertIs(shows_remaining((), 4, 3, 19, rows), False)
        self.assertIs(shows_remaining((), 2, 3, 19, rows), False)

    def test_tables_of_any_kind(self):
        values = fixed_values() + random_values(500)
        values.extend((value,) for value in fixed_values())
        values.extend(((value, 0),) for value in fixed_values())
        values.extend((((), value),) for value in fixed_values())
        for value in values:
            for state, k, c, number in (((), 0, 0, 0), ((), 2, 2, 5), ((2,), 1, 2, 0)):
                found = shows_remaining(state, k, c, number, value)
                assert_bool(self, found, plain_shows(state, k, c, number, value), value)

    def test_claims_of_any_kind(self):
        for state, k, c in (((), 2, 2), ((2, 1), 2, 2), ((2, 2), 2, 2)):
            rows = potentials(state, k, c)
            right = plain_remaining(state, k, c)
            claims = [right + 1, right - 1, -right - 1, True, False, None, str(right), (right,), [right], {right: 0}]
            for claim in claims + fixed_values() + random_values(100):
                if type(claim) is int and claim == right:
                    continue
                self.assertIs(shows_remaining(state, k, c, claim, rows), False, repr(claim))
            self.assertIs(shows_remaining(state, k, c, right, rows), True)

    def test_a_bool_is_no_number(self):
        self.assertIs(shows_remaining((2, 1), 2, 2, 1, potentials((2, 1), 2, 2)), True)
        self.assertIs(shows_remaining((2, 1), 2, 2, True, potentials((2, 1), 2, 2)), False)
        self.assertIs(shows_remaining((), 0, 0, 0, (((), 0),)), True)
        self.assertIs(shows_remaining((), 0, 0, False, (((), 0),)), False)
        self.assertIs(shows_remaining((), 0, 0, 0, (((), False),)), False)
        self.assertIs(shows_remaining((), 0, 0, False, (((), False),)), False)
        self.assertIs(shows_remaining((1,), 1, 1, 0, (((1,), 0),)), True)
        self.assertIs(shows_remaining((1,), 1, 1, 0, (((True,), 0),)), False)


if __name__ == "__main__":
    unittest.main()
