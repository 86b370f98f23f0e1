"""Marks of left depths, and which trees agree by an operation with a tail and a ring."""

from cutfolds.checks import check_ring, check_tail, check_tree, check_two_trees, is_whole
from cutfolds.errors import InvalidNumber
from cutfolds.trees import left_fold


def mark(depth, tail, ring):
    """The mark of a left depth."""
    if not is_whole(depth) or depth < 0:
        raise InvalidNumber(depth)
    check_tail(tail)
    check_ring(ring)
    return _mark_of(depth, tail, ring)


def next_mark(given, tail, ring):
    """The mark next to a mark."""
    # A mark is the least of the left depths that have it.
    return mark(given + 1, tail, ring)


def marks_of(tree, tail, ring):
    """The list of the marks of the leaves of a tree."""
    check_tree(tree)
    check_tail(tail)
    check_ring(ring)
    return [_mark_of(depth, tail, ring) for depth in tree]


def fold_marks(number, tail, ring):
    """The list of the marks of the fold of so many values from the left."""
    return marks_of(left_fold(number), tail, ring)


def are_alike(tree, other, tail, ring):
    """Whether two trees with equally many leaves agree."""
    return parting_leaf(tree, other, tail, ring) is None


def parting_leaf(tree, other, tail, ring):
    """The first leaf at which the marks of two trees differ; None if there is none."""
    check_two_trees(tree, other)
    ours = marks_of(tree, tail, ring)
    theirs = marks_of(other, tail, ring)
    for index, our in enumerate(ours):
        if our != theirs[index]:
            return index + 1
    return None


def parting_size(tail, ring, other_tail, other_ring):
    """The least number of values by which two pairs of a tail and a ring can be told apart.

    None if they let the same trees agree.
    """
    check_tail(tail)
    check_ring(ring)
    check_tail(other_tail)
    check_ring(other_ring)
    # A tail of 0 and one of 1 let the same trees agree.
    reach = max(tail, 1)
    other_reach = max(other_tail, 1)
    if ring == other_ring and reach == other_reach:
        return None
    return 1 + min(reach + ring, other_reach + other_ring)


def _mark_of(depth, tail, ring):
    """The mark of a left depth, by numbers that are checked."""
    if depth < tail:
        return depth
    return tail + (depth - tail) % ring
