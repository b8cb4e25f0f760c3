"""The store: a buffer and a stack of runs, merged as a policy says."""

from mergebudget.errors import (
    Exhausted, InvalidKey, InvalidMerge, InvalidMoment, InvalidPolicy, InvalidValue, NothingToUndo,
)
from mergebudget.kinds import MOST_BUDGET, is_count_up_to, is_int
from mergebudget.policies import policy_merge
from mergebudget.schedules import MOST_FLUSHES, stacks
from mergebudget.states import best_merge, state_of
from mergebudget.work import write_work

MOST_LETTERS = 8
# The number of budgets behind the name of each policy.
POLICIES = {"manual": 0, "runs": 1, "budget": 2}


def is_key(value):
    """Whether a value of any kind is a key."""
    if not isinstance(value, str) or not 1 <= len(value) <= MOST_LETTERS:
        return False
    return all(["a" <= letter <= "z" for letter in value])


def check_key(key):
    """Raises an error unless the key is a key."""
    if not is_key(key):
        raise InvalidKey(key)


def is_policy(value):
    """Whether a value of any kind is a policy."""
    if not isinstance(value, tuple) or len(value) == 0 or not isinstance(value[0], str):
        return False
    if value[0] not in POLICIES or len(value) != 1 + POLICIES[value[0]]:
        return False
    return all([is_count_up_to(budget, MOST_BUDGET) and budget > 0 for budget in value[1:]])


def ascending_pairs(entries):
    """The pairs (key, value) of entries, ascending."""
    return tuple([(key, entries[key]) for key in sorted(list(entries))])


class Store:
    """A store that follows a policy and can tell what it held after each flush.

    Entries are kept as they were flushed, one dict for each flush and one for the buffer, with
    None as the value of a deletion. Runs are intervals of flushes, which follow from the merges.
    """

    def __init__(self, policy):
        if not is_policy(policy):
            raise InvalidPolicy(policy)
        self.rule = policy
        self.merges = []
        self.batches = []
        self.buffer = {}
        # What undo reverts: None for a flush, else the key that was written and what it had in the buffer.
        self.history = []
        self.searched = 0

    def put(self, key, value):
        """Writes an entry to the buffer."""
        check_key(key)
        if not is_int(value):
            raise InvalidValue(value)
        self.write(key, value)

    def delete(self, key):
        """Writes a deletion to the buffer."""
        check_key(key)
        self.write(key, None)

    def write(self, key, value):
        """Writes an entry or a deletion to the buffer, and keeps what it replaces."""
        replaced = (self.buffer[key],) if key in self.buffer else ()
        self.history.append((key, replaced))
        self.buffer[key] = value

    def flush(self, merge=None):
        """Turns the buffer into a run, merged with the newest runs; returns how many these are."""
        self.check_merge(merge)
        if len(self.merges) == MOST_FLUSHES:
            raise Exhausted()
        chosen = self.chosen_merge(merge)
        if chosen is None:
            raise Exhausted()
        self.merges.append(chosen)
        self.batches.append(self.buffer)
        self.buffer = {}
        self.history.append(None)
        return chosen

    def check_merge(self, merge):
        """Raises an error unless the policy lets a caller pass this merge."""
        if self.rule[0] == "manual":
            if not is_count_up_to(merge, len(self.stack())):
                raise InvalidMerge(merge)
        elif merge is not None:
            raise InvalidMerge(merge)

    def chosen_merge(self, merge):
        """The merge of the next flush, or None if the budgets allow no further one."""
        if self.rule[0] == "manual":
            return merge
        if self.rule[0] == "runs":
            return policy_merge(self.rule[1], len(self.merges))
        return best_merge(self.state(), self.rule[1], self.rule[2])

    def read(self, key, *, moment=None):
        """The value of a key, now or after the first `moment` flushes, or None."""
        check_key(key)
        self.check_moment(moment)
        if moment is None and key in self.buffer:
            return self.buffer[key]
        flushes = self.flushes_until(moment)
        runs = self.stack()
        for start, stop in reversed(runs):
            if start < flushes:
                self.searched += 1
                for flush in reversed(range(start, min(stop, flushes))):
                    if key in self.batches[flush]:
                        return self.batches[flush][key]
        return None

    def flushes_until(self, moment):
        """How many flushes count at a moment."""
        return len(self.merges) if moment is None else moment

    def check_moment(self, moment):
        """Raises an error unless the moment is None or a number of flushes so far."""
        if moment is not None and not is_count_up_to(moment, len(self.merges)):
            raise InvalidMoment(moment)

    def visited(self):
        """How many runs all reads have searched."""
        return self.searched

    def present(self, *, moment=None):
        """The ascending keys that have a value, now or after the first `moment` flushes."""
        self.check_moment(moment)
        newest = {}
        for batch in self.batches[: self.flushes_until(moment)]:
            newest.update(batch)
        if moment is None:
            newest.update(self.buffer)
        return tuple(sorted([key for key in newest if newest[key] is not None]))

    def stack(self):
        """The current stack."""
        history = stacks(self.schedule())
        return history[-1] if history else ()

    def state(self):
        """The state of the current stack."""
        return state_of(self.schedule())

    def schedule(self):
        """The schedule of all flushes."""
        return tuple(self.merges)

    def sizes(self):
        """The number of entries that each flush wrote from the buffer."""
        return tuple([len(batch) for batch in self.batches])

    def written(self):
        """The write work of all flushes."""
        return write_work(self.schedule(), self.sizes())

    def flushed(self):
        """For each flush the ascending pairs (key, value) that it wrote from the buffer."""
        return tuple([ascending_pairs(batch) for batch in self.batches])

    def pending(self):
        """The ascending pairs (key, value) of the buffer, with None as the value of a deletion."""
        return ascending_pairs(self.buffer)

    def policy(self):
        """The policy."""
        return self.rule

    def undo(self):
        """Reverts the last put, delete or flush that has not been reverted."""
        if not self.history:
            raise NothingToUndo()
        step = self.history.pop()
        if step is None:
            self.merges.pop()
            self.buffer = self.batches.pop()
        else:
            key, replaced = step
            if replaced:
                self.buffer[key] = replaced[0]
            else:
                del self.buffer[key]

    def copy(self):
        """A store that equals this one, shares nothing with it and has nothing to undo."""
        twin = Store(self.rule)
        twin.merges = list(self.merges)
        twin.batches = [dict(batch) for batch in self.batches]
        twin.buffer = dict(self.buffer)
        return twin

    def __eq__(self, other):
        return (
            isinstance(other, Store)
            and self.rule == other.rule
            and self.merges == other.merges
            and self.batches == other.batches
            and self.buffer == other.buffer
        )

    def __len__(self):
        return len(self.merges)
