"""Trees: the binary trees that correspond to schedules."""

from mergebudget.errors import InvalidTree
from mergebudget.kinds import is_int
from mergebudget.schedules import MOST_FLUSHES, run_counts

NO_PARENT = -1


def is_tree(value):
    """Whether a value of any kind is a tree of at most 60 nodes."""
    if not isinstance(value, tuple) or len(value) > MOST_FLUSHES:
        return False
    if not all([is_int(parent) for parent in value]):
        return False
    return is_numbered_in_order(value)


def is_numbered_in_order(parents):
    """Whether the parents are those of a binary tree whose nodes are numbered in order."""
    # A subtree is an interval of nodes, exactly one of which has its parent outside.
    subtrees = [(0, len(parents), NO_PARENT)]
    while subtrees:
        start, stop, parent = subtrees.pop()
        if start == stop:
            continue
        roots = [node for node in range(start, stop) if parents[node] == parent]
        if len(roots) != 1:
            return False
        root = roots[0]
        subtrees.append((start, root, root))
        subtrees.append((root + 1, stop, root))
    return True


def tree_of(schedule):
    """The tree of a schedule."""
    counts = run_counts(schedule)
    parents = [NO_PARENT] * len(counts)
    # A flush of the interval writes its oldest run if it leaves `runs` runs:
    # those older than the interval, one for each right edge, and this one.
    intervals = [(0, len(counts), 1, NO_PARENT)]
    while intervals:
        start, stop, runs, parent = intervals.pop()
        if start == stop:
            continue
        root = max([flush for flush in range(start, stop) if counts[flush] == runs])
        parents[root] = parent
        intervals.append((start, root, runs, root))
        intervals.append((root + 1, stop, runs + 1, root))
    return tuple(parents)


def schedule_of(tree):
    """The schedule whose tree is `tree`."""
    merges = []
    runs_before = 0
    for left, right in edges(tree):
        # Each right edge above a node stands for one run below its own (guarantee (a)).
        runs_after = right + 1
        merges.append(runs_before + 1 - runs_after)
        runs_before = runs_after
    return tuple(merges)


def edges(tree):
    """The pair (left edges, right edges) of the path from the root to each node."""
    if not is_tree(tree):
        raise InvalidTree(tree)
    return tuple([edges_above(tree, node) for node in range(len(tree))])


def edges_above(tree, node):
    """The left and the right edges on the path from the root to one node."""
    left = 0
    right = 0
    child = node
    while tree[child] != NO_PARENT:
        if child < tree[child]:
            left += 1
        else:
            right += 1
        child = tree[child]
    return (left, right)


def mirror(schedule):
    """The schedule of the mirrored tree."""
    tree = tree_of(schedule)
    last = len(tree) - 1
    return schedule_of(tuple([mirrored_node(parent, last) for parent in reversed(tree)]))


def mirrored_node(node, last):
    """The number of a node in the mirrored tree; the parent of the root stays what it is."""
    return NO_PARENT if node == NO_PARENT else last - node
