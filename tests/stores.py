"""What the tests of stores, texts and desks share: a plain store, a plain reader of texts, random histories."""

import copy
import functools
import re

from mergebudget.errors import (
    Exhausted, InvalidKey, InvalidMerge, InvalidMoment, InvalidPolicy, InvalidValue, NothingToUndo,
)  # fmt: skip
from tests.budgets import plain_lifetime
from tests.samples import MOST, fixed_values, random_values

POLICIES = [
    ("manual",), ("runs", 1), ("runs", 2), ("runs", 3), ("runs", 60), ("budget", 1, 1), ("budget", 2, 2),
    ("budget", 3, 2), ("budget", 1, 60), ("budget", 60, 1), ("budget", 3, 3), ("budget", 60, 60), ("budget", 2, 9),
]  # fmt: skip
KEYS = ("a", "b", "ab", "z", "abcdefgh", "zzzzzzzz")

# ---- values of any kind that are wrong


def wrong_keys():
    values = ["", "A", "a1", "1", "a b", "a ", " a", "a\n", "\n", "~", "-", "a=", "aaaaaaaaa", "aB", "`", "{"]
    values.extend(["a" * 100, ("a",), ["a"], {"a": 1}, 1, 0, "a-b", "Z", "a\nb"])
    return [value for value in values + fixed_values() + random_values(60) if not plain_is_key(value)]


def wrong_values():
    values = [True, False, None, "1", "", (1,), [1], {1: 1}, ()]
    return [value for value in values + fixed_values() + random_values(60) if type(value) is not int]


def wrong_counts(most):
    values = [most + 1, most + 2, -1, 60, 61, 10**59, True, False, None, "0", "1", (0,), [0], {}]
    values += fixed_values() + random_values(40)
    return [value for value in values if not (type(value) is int and 0 <= value <= most)]


def wrong_policies():
    values = [
        (), ("manual", 1), ("manual", None), ("runs",), ("runs", 0), ("runs", 61), ("runs", -1), ("runs", True),
        ("runs", "2"), ("runs", None), ("runs", 2, 2), ("runs", (2,)), ("runs", [2]), ("budget",), ("budget", 2),
        ("budget", 0, 2), ("budget", 2, 0), ("budget", 61, 2), ("budget", 2, 61), ("budget", True, 2),
        ("budget", 2, True), ("budget", 2, 2, 2), ("budget", "2", 2), ("budget", 2, None), ("budget", 2, [2]),
        ["manual"], ["runs", 2], ["budget", 2, 2], "manual", "runs", ("Manual",), ("manual ",), ("",), ("other",),
        ("run", 2), ("budgets", 2, 2), (2, "runs"), (("manual",),), ("manual", ()), {"manual": 1}, {"runs": 2},
        (None,), ([],), ({},), (["runs"], 2), (("runs",), 2), ("runs", 10**59), ("budget", -1, 2), ("budget", 2, -1),
    ]  # fmt: skip
    return values + fixed_values() + random_values(200)


# ---- plain tests and choices


def plain_is_key(value):
    return type(value) is str and re.fullmatch("[a-z]{1,8}", value) is not None


def plain_is_policy(value):
    if type(value) is not tuple or not all(type(part) in (str, int) for part in value):
        return False
    if value == ("manual",):
        return True
    if len(value) == 0 or value[0] not in ("runs", "budget") or len(value) != (2 if value[0] == "runs" else 3):
        return False
    return all(type(part) is int and 1 <= part <= 60 for part in value[1:])


@functools.cache
def only_schedule(k, c, many=MOST):
    """The first flushes of the only schedule of a lifetime, put together from those of its two subtrees."""
    if k == 0 or c == 0 or many <= 0:
        return ()
    left = only_schedule(k, c - 1, many)
    runs_left = len(left) - sum(left)
    return (left + (runs_left,) + only_schedule(k - 1, c, many - len(left) - 1))[:many]


def outcome(call):
    """What a call returns or which error it raises, with its value."""
    try:
        return ("returns", call())
    except ValueError as error:
        return ("raises", type(error).__name__, getattr(error, "value", "no value"))


class PlainStore:
    """A store that keeps a log of all flushes, real runs with all their entries, and a snapshot of each step."""

    def __init__(self, policy):
        if not plain_is_policy(policy):
            raise InvalidPolicy(policy)
        self.kept_policy = policy
        self.log = []
        self.merges = []
        self.runs = []
        self.buffer = {}
        self.past = []
        self.searches = 0

    def remember(self):
        self.past.append(copy.deepcopy((self.log, self.merges, self.runs, self.buffer)))

    def put(self, key, value):
        if not plain_is_key(key):
            raise InvalidKey(key)
        if type(value) is not int:
            raise InvalidValue(value)
        self.remember()
        self.buffer[key] = value

    def delete(self, key):
        if not plain_is_key(key):
            raise InvalidKey(key)
        self.remember()
        self.buffer[key] = None

    def most_flushes(self):
        name, *budgets = self.kept_policy
        return min(MOST, plain_lifetime(*budgets)) if name == "budget" else MOST

    def flush(self, merge=None):
        name, *budgets = self.kept_policy
        if name == "manual":
            if type(merge) is not int or not 0 <= merge <= len(self.runs):
                raise InvalidMerge(merge)
        elif merge is not None:
            raise InvalidMerge(merge)
        if len(self.log) == self.most_flushes():
            raise Exhausted()
        if name != "manual":
            # The first flushes of the policy for k runs are those of the only schedule of each lifetime.
            merge = only_schedule(budgets[0], 60)[len(self.log)]
        self.remember()
        number = len(self.log)
        entries = [(key, number, value) for key, value in self.buffer.items()]
        start = number
        for time in range(merge):
            start, stop, older = self.runs.pop()
            entries = older + entries
        self.runs.append((start, number + 1, entries))
        self.log.append(dict(self.buffer))
        self.merges.append(merge)
        self.buffer = {}
        return merge

    def check_moment(self, moment):
        if moment is not None and (type(moment) is not int or not 0 <= moment <= len(self.log)):
            raise InvalidMoment(moment)

    def logged(self, key, moment):
        """What the log says, without any runs."""
        batches = self.log + [self.buffer] if moment is None else self.log[:moment]
        found = [batch[key] for batch in batches if key in batch]
        return found[-1] if found else None

    def read(self, key, *, moment=None):
        if not plain_is_key(key):
            raise InvalidKey(key)
        self.check_moment(moment)
        if moment is None and key in self.buffer:
            return self.buffer[key]
        limit = len(self.log) if moment is None else moment
        for start, stop, entries in self.runs[::-1]:
            if start >= limit:
                continue
            self.searches += 1
            found = {number: value for other, number, value in entries if other == key and number < limit}
            if found:
                return found[max(found)]
        return None

    def visited(self):
        return self.searches

    def present(self, *, moment=None):
        self.check_moment(moment)
        keys = {key for batch in self.log + [self.buffer] for key in batch}
        return tuple(sorted(key for key in keys if self.logged(key, moment) is not None))

    def stack(self):
        return tuple((start, stop) for start, stop, entries in self.runs)

    def times(self):
        """How often each flush was written, counted along the merges."""
        counts, runs = [], []
        for number, merge in enumerate(self.merges):
            new = [number]
            for time in range(merge):
                new += runs.pop()
            runs.append(new)
            counts.append(0)
            for old in new:
                counts[old] += 1
        return counts

    def state(self):
        counts = self.times()
        return tuple(max(counts[start:stop]) for start, stop in self.stack())

    def schedule(self):
        return tuple(self.merges)

    def sizes(self):
        return tuple(len(batch) for batch in self.log)

    def written(self):
        return sum(size * many for size, many in zip(self.sizes(), self.times()))

    def pending(self):
        return tuple(sorted(self.buffer.items()))

    def policy(self):
        return self.kept_policy

    def undo(self):
        if not self.past:
            raise NothingToUndo()
        self.log, self.merges, self.runs, self.buffer = self.past.pop()

    def __len__(self):
        return len(self.log)


def facts(store):
    """All that a store tells without being read."""
    return {
        "stack": store.stack(), "state": store.state(), "schedule": store.schedule(), "sizes": store.sizes(),
        "written": store.written(), "pending": store.pending(), "policy": store.policy(), "length": len(store),
        "visited": store.visited(), "present": [store.present()]
        + [store.present(moment=moment) for moment in range(len(store) + 1)],
    }  # fmt: skip


def entries_of(store):
    """All entries of a store as it shows them: what each key had at each moment, without counting searches."""
    twin = store.copy()
    moments = [None] + list(range(len(store) + 1))
    keys = sorted({key for moment in moments for key in twin.present(moment=moment)} | set(KEYS))
    return [[twin.read(key, moment=moment) for key in keys] for moment in moments]


def random_merge(rng, runs):
    """A merge that a manual store accepts: none, all or some of the runs."""
    return rng.choice((0, 0, runs, rng.randint(0, runs)))


def random_step(rng, store):
    """A step of a history that a store of this state accepts, but for its exhaustion: a name and its arguments."""
    kind = rng.randrange(10)
    if kind < 4:
        return ("put", (rng.choice(KEYS), rng.choice((0, 1, -1, rng.randint(-99, 99), 10**59, -(10**59)))))
    if kind < 6:
        return ("delete", (rng.choice(KEYS),))
    if kind < 9:
        return ("flush", (random_merge(rng, len(store.stack())),) if store.policy() == ("manual",) else ())
    return ("undo", ())


def led_store(store, steps):
    """The store after these steps."""
    for name, arguments in steps:
        getattr(store, name)(*arguments)
    return store


def random_store(rng, made, policy, many):
    """A store of this policy after some random steps; those that it does not accept are left out."""
    store = made(policy)
    for turn in range(many):
        name, arguments = random_step(rng, store)
        outcome(lambda: getattr(store, name)(*arguments))
    return store


# ---- a plain reader of texts

NUMBER = "(?:0|[1-9][0-9]{0,59})"
ENTRY = "([a-z]{1,8})=(-|0|-?[1-9][0-9]{0,59})"


def plain_read_store(text):
    """The plain store with a text, or the index of the first wrong line."""
    if type(text) is not str:
        return 0
    lines = text.split("\n")
    head = re.fullmatch(f"store (manual|runs {NUMBER}|budget {NUMBER} {NUMBER})", lines[0])
    if head is None:
        return 0
    name, *numbers = head[1].split(" ")
    policy = (name, *map(int, numbers))
    if not plain_is_policy(policy):
        return 0
    store = PlainStore(policy)
    for at, line in enumerate(lines):
        if at == 0:
            continue
        form = re.fullmatch(f"(pending|flush ({NUMBER}))((?: {ENTRY})*)", line)
        if form is None or not write_entries(store, [word.split("=") for word in form[3].split()]):
            return at
        if form[2] is None:
            store.past.clear()
            return store if at == len(lines) - 1 else at + 1
        wanted = int(form[2])
        found = outcome(lambda: store.flush(wanted if policy == ("manual",) else None))
        if found != ("returns", wanted):
            return at
    return len(lines)


def write_entries(store, entries):
    """Whether entries stand by ascending key; then they are written."""
    keys = [key for key, shown in entries]
    if keys != sorted(set(keys)):
        return False
    for key, shown in entries:
        if shown == "-":
            store.delete(key)
        else:
            store.put(key, int(shown))
    return True


def plain_store_text(store):
    """The text of a plain store."""
    lines = [" ".join(map(str, ("store",) + store.kept_policy))]
    for merge, batch in zip(store.merges, store.log):
        lines.append(" ".join(["flush", str(merge)] + shown_words(batch)))
    lines.append(" ".join(["pending"] + shown_words(store.buffer)))
    return "\n".join(lines)


def shown_words(batch):
    return [key + "=" + ("-" if batch[key] is None else str(batch[key])) for key in sorted(batch)]
