"""What the tests share: plain simulations, sample schedules, values of any kind."""

import copy
import random

MOST = 60
CATALAN = (1, 1, 2, 5, 14, 42, 132, 429, 1430)

# ---- plain simulation, by lists of flushes


def simulate(schedule):
    """The lists of flushes that make up the runs, after each flush, and how often each flush was written."""
    runs = []
    written = []
    history = []
    for flush, merge in enumerate(schedule):
        kept = runs[: len(runs) - merge]
        merged = [old for run in runs[len(runs) - merge :] for old in run]
        new = merged + [flush]
        runs = kept + [new]
        written.append(0)
        for old in new:
            written[old] += 1
        history.append([list(run) for run in runs])
    return history, written


def plain_is_schedule(value):
    """Whether a value is a schedule, told by following it with lists of flushes."""
    if type(value) is not tuple or len(value) > MOST:
        return False
    runs = []
    for flush, merge in enumerate(value):
        if type(merge) is not int or merge < 0 or merge > len(runs):
            return False
        newest = [runs.pop() for step in range(merge)]
        runs.append([flush] + newest)
    return True


def plain_tree(schedule):
    """The tree of a schedule, by the words of point 3: root, left subtree, right subtree."""
    if not schedule:
        return ()
    history, written = simulate(schedule)
    root = max(flush for flush, runs in enumerate(history) if flush in runs[0])
    left = plain_tree(schedule[:root])
    right = plain_tree(schedule[root + 1 :])
    return hang(left, root, 0) + (-1,) + hang(right, root, root + 1)


def hang(tree, parent, shift):
    """The parents of a subtree whose nodes are numbered from `shift` on, hung below a node."""
    return tuple(parent if above == -1 else above + shift for above in tree)


def plain_is_tree(value):
    """Whether a value is a tree, told by walking it in order from its root."""
    if type(value) is not tuple or len(value) > MOST:
        return False
    if not all(type(parent) is int and -1 <= parent < len(value) for parent in value):
        return False
    if value.count(-1) != (1 if value else 0):
        return False
    lefts, rights = children(value)
    if any(len(found) > 1 for found in lefts + rights):
        return False
    return in_order(value, lefts, rights) == list(range(len(value)))


def children(tree):
    """For each node the list of its left children and the list of its right children."""
    lefts = [[] for node in tree]
    rights = [[] for node in tree]
    for child, parent in enumerate(tree):
        if parent != -1:
            (lefts if child < parent else rights)[parent].append(child)
    return lefts, rights


def in_order(tree, lefts, rights):
    """The nodes below the root, in order (left subtree, node, right subtree)."""

    def walk(node):
        below_left = [other for child in lefts[node] for other in walk(child)]
        below_right = [other for child in rights[node] for other in walk(child)]
        return below_left + [node] + below_right

    return walk(tree.index(-1)) if tree else []


def plain_edges(tree):
    """The left and right edges above each node, counted on the way down from the root."""
    lefts, rights = children(tree)
    found = {}

    def walk(node, left, right):
        found[node] = (left, right)
        for child in lefts[node]:
            walk(child, left + 1, right)
        for child in rights[node]:
            walk(child, left, right + 1)

    if tree:
        walk(tree.index(-1), 0, 0)
    return tuple(found[node] for node in range(len(tree)))


# ---- sample schedules


def merges_nothing(n):
    return (0,) * n


def merges_everything(n):
    return ((0,) + (1,) * n)[:n]


def merges_every_second(n):
    """Every second flush merges all runs; the others merge none."""
    return ((0, 1) + (0, 2) * n)[:n]


def merges_at_the_end(n):
    """Only the last flush merges, and it merges all runs."""
    return (0,) * (n - 1) + (n - 1,) if n else ()


def random_schedule(rng, n, lean):
    """A random schedule; a greater `lean` merges less."""
    runs = 0
    merges = []
    for flush in range(n):
        merge = max(0, rng.randint(0, runs + lean) - lean)
        merges.append(merge)
        runs += 1 - merge
    return tuple(merges)


def long_schedules():
    """Schedules of 0 to 60 flushes, the extreme ones and random ones."""
    rng = random.Random(5)
    found = []
    for n in range(MOST + 1):
        found.extend(made(n) for made in (merges_nothing, merges_everything, merges_every_second, merges_at_the_end))
        found.extend(random_schedule(rng, n, lean) for lean in (0, 1, 5, 20))
    return found


# ---- values of any kind


def nested(depth, wrap, core):
    """A value that wraps `core` as often as `depth` says."""
    value = core
    for level in range(depth):
        value = wrap(value)
    return value


def fixed_values():
    """Values of every kind, none of which is a schedule, a tree or a count."""
    return [
        None, True, False, -1, -60, 10**59, -(10**59), "", "0", "3", "-1", "(0,)", "a b\n~",
        [], [0], [0, 1], [-1], {}, {0: 0}, {"a": [1, (2, None)]},
        (None,), (True,), ("0",), ("",), ((),), ((0,),), ([],), ([0],), ({},), (0, None), (0, "1"), (0, (1,)), (0, [1]),
        (-1, None), (-1, "0"), (1, (-1,)), (-1, [0]), (-1, {}), (-2,), (10**59,), (0, 10**59), (0, -(10**59)),
        nested(30, lambda value: (value,), 0), nested(30, lambda value: [value], 0),
        nested(30, lambda value: {"a": value}, 0), nested(29, lambda value: (0, value), None),
        nested(29, lambda value: [value, (1,)], ()), (0, nested(29, lambda value: (value,), ())),
    ]  # fmt: skip


def random_value(rng, depth):
    """A random value of any kind, nested at most `depth` deep."""
    kind = rng.randrange(9 if depth else 5)
    if kind < 5:
        return (rng.randint(-3, 4), rng.random() < 0.5, None, rng.choice(("", "0", "ab", "-1")), 0)[kind]
    parts = [random_value(rng, rng.randrange(depth)) for part in range(rng.randrange(4))]
    if kind < 7:
        return tuple(parts)
    return parts if kind == 7 else {str(at): part for at, part in enumerate(parts)}


def random_values(many):
    rng = random.Random(17)
    deep = [random_value(rng, rng.choice((1, 2, 4, 30))) for turn in range(many)]
    flat = [tuple(rng.randint(-1, 2) for place in range(rng.randrange(5))) for turn in range(many)]
    return deep + flat


def changed(rng, value, numbers):
    """Variants of a tuple of ints in which one thing is different; some may still be right."""
    found = [list(value), value[:-1], value[1:], str(value), (value,), {at: part for at, part in enumerate(value)}]
    found.extend(value + (more,) for more in (0, 1, -1, True, False, None, "0"))
    found.extend((more,) + value for more in (0, 1, -1, True, False, None, "0"))
    for turn in range(6 if value else 0):
        at = rng.randrange(len(value))
        for part in numbers + (-1, -2, value[at] + 1, value[at] - 1, len(value), len(value) + 1):
            found.append(value[:at] + (part,) + value[at + 1 :])
        for part in (True, False, None, str(value[at]), (value[at],), [value[at]], {}, ""):
            found.append(value[:at] + (part,) + value[at + 1 :])
        found.append(value[:at] + value[at + 1 :])
        other = rng.randrange(len(value))
        parts = list(value)
        parts[at], parts[other] = parts[other], parts[at]
        found.append(tuple(parts))
    return found


def wrong_schedules():
    """Values of any kind and changed schedules that are no schedules."""
    rng = random.Random(3)
    values = fixed_values() + random_values(400)
    for schedule in long_schedules():
        values.extend(changed(rng, schedule, (0, 1, 2, 59, 60)))
    values.extend(made(61) for made in (merges_nothing, merges_everything, merges_every_second, merges_at_the_end))
    values.append(merges_nothing(200))
    return [value for value in values if not plain_is_schedule(value)]


# ---- checks


def assert_same(test, found, wanted):
    """Equal, and of the same kinds throughout: the printed form tells True from 1 and a list from a tuple."""
    test.assertEqual(found, wanted)
    test.assertEqual(repr(found), repr(wanted))


def assert_bool(test, found, wanted, value):
    test.assertTrue(found is True or found is False, repr(found))
    test.assertEqual(found, wanted, repr(value))


def assert_refused(test, call, value, error):
    """The call raises exactly this error, with this very value, which it leaves as it was."""
    before = copy.deepcopy(value)
    try:
        result = call(value)
    except ValueError as caught:
        test.assertEqual(type(caught).__name__, error.__name__, repr(value))
        test.assertIsInstance(caught, error)
        test.assertIs(caught.value, value)
    else:
        test.fail(f"{call.__name__}({value!r}) returned {result!r}")
    test.assertEqual(repr(value), repr(before))
