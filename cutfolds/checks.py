"""The checks of arguments that several files share."""

from cutfolds.errors import InvalidMarks, InvalidNumber, InvalidRing, InvalidTail, InvalidTree, UnequalLeaves

MOST_LEAVES = 40
MOST_TAIL = 40
MOST_RING = 10000


def is_whole(thing):
    """Whether a thing is a whole number, which True and False are not."""
    return isinstance(thing, int) and not isinstance(thing, bool)


def is_whole_within(thing, least, most):
    """Whether a thing is a whole number from `least` to `most`."""
    return is_whole(thing) and least <= thing <= most


def check_number(number, least, most):
    """Raise InvalidNumber if `number` is not a whole number from `least` to `most`."""
    if not is_whole_within(number, least, most):
        raise InvalidNumber(number)


def check_tail(tail):
    """Raise InvalidTail if `tail` is not that of an operation."""
    if not is_whole_within(tail, 0, MOST_TAIL):
        raise InvalidTail(tail)


def check_ring(ring):
    """Raise InvalidRing if `ring` is not that of an operation."""
    if not is_whole_within(ring, 1, MOST_RING):
        raise InvalidRing(ring)


def check_tree(tree):
    """Raise InvalidTree if `tree` is not the list of the left depths of a tree."""
    if not isinstance(tree, list) or not 1 <= len(tree) <= MOST_LEAVES:
        raise InvalidTree(None)
    last = len(tree) - 1
    for index, depth in enumerate(tree):
        if not is_whole(depth) or depth < (0 if index == last else 1):
            raise InvalidTree(index)
        if index > 0 and depth < tree[index - 1] - 1:
            raise InvalidTree(index)
    if tree[last] != 0:
        raise InvalidTree(last)


def check_two_trees(tree, other):
    """Raise InvalidTree or UnequalLeaves if these are not trees with equally many leaves."""
    check_tree(tree)
    check_tree(other)
    if len(tree) != len(other):
        raise UnequalLeaves(len(tree), len(other))


def check_marks(marks, tail, ring):
    """Raise InvalidTail, InvalidRing or InvalidMarks if these are not marks by a tail and a ring.

    How great a mark may be hangs on the tail and the ring, so these come first.
    """
    check_tail(tail)
    check_ring(ring)
    if not isinstance(marks, list) or not 1 <= len(marks) <= MOST_LEAVES:
        raise InvalidMarks(None)
    for index, mark in enumerate(marks):
        if not is_whole_within(mark, 0, tail + ring - 1):
            raise InvalidMarks(index)
