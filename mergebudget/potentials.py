"""Potentials: tables that certify how many further flushes a state can take."""

from mergebudget.kinds import check_budgets, is_count, is_int
from mergebudget.states import check_state, is_state, remaining, state_after

MOST_TABLE_BUDGET = 4


def potentials(state, k, c):
    """The potential table of all states that `state` reaches, with itself."""
    check_arguments(state, k, c)
    return tuple([(reached, remaining(reached, k, c)) for reached in all_reached(state, k, c)])


def check_arguments(state, k, c):
    """Raises an error unless the budgets are small enough for tables and the state is within them."""
    check_budgets(k, c, MOST_TABLE_BUDGET)
    check_state(state, k, c)


def all_reached(state, k, c):
    """All states that `state` reaches by any number of flushes within the budgets, ascending."""
    found = {state: True}
    waiting = [state]
    while waiting:
        current = waiting.pop()
        for after in states_after(current, k, c):
            if after not in found:
                found[after] = True
                waiting.append(after)
    return sorted(found)


def states_after(state, k, c):
    """The states that `state` reaches by one flush within the budgets."""
    candidates = [state_after(state, merge) for merge in range(len(state) + 1)]
    return [after for after in candidates if is_state(after, k, c)]


def shows_remaining(state, k, c, number, value):
    """Whether a value of any kind is a potential table in which `state` has the number `number`."""
    check_arguments(state, k, c)
    if not is_int(number) or not has_rows(value, k, c):
        return False
    numbers = {listed: found for listed, found in value}
    if state not in numbers or numbers[state] != number:
        return False
    return all([is_justified(listed, numbers, k, c) for listed in numbers])


def has_rows(value, k, c):
    """Whether a value of any kind is a tuple of rows (state, number), ascending, each state once."""
    if not isinstance(value, tuple) or not all([is_row(row, k, c) for row in value]):
        return False
    return all([row[0] < following[0] for row, following in zip(value, value[1:])])


def is_row(value, k, c):
    """Whether a value of any kind is a pair of a state within the budgets and a count."""
    return isinstance(value, tuple) and len(value) == 2 and is_state(value[0], k, c) and is_count(value[1])


def is_justified(state, numbers, k, c):
    """Whether the listed numbers behind one flush show that the number of a listed state is right."""
    number = numbers[state]
    reached = states_after(state, k, c)
    if not all([after in numbers and numbers[after] < number for after in reached]):
        return False
    return number == 0 or any([numbers[after] == number - 1 for after in reached])
