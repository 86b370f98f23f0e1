"""Trees, told by the lists of the left depths of their leaves."""

from cutfolds.checks import MOST_LEAVES, check_number, check_tree
from cutfolds.errors import InvalidTree

MOST_LEAVES_OF_ALL = 9


def parts(tree):
    """The tuple of the left and the right part of a tree; None for one leaf."""
    check_tree(tree)
    if len(tree) == 1:
        return None
    # The left part ends where its own 0 has become a 1; all ahead of it are greater.
    size = tree.index(1) + 1
    return [depth - 1 for depth in tree[:size]], tree[size:]


def put_together(left, right):
    """The tree of two parts."""
    check_tree(left)
    check_tree(right)
    if len(left) + len(right) > MOST_LEAVES:
        raise InvalidTree(None)
    return [depth + 1 for depth in left] + right


def height(tree):
    """The height of a tree."""
    both = parts(tree)
    if both is None:
        return 0
    left, right = both
    return 1 + max(height(left), height(right))


def mirrored(tree):
    """The tree with left and right parts exchanged everywhere."""
    both = parts(tree)
    if both is None:
        return [0]
    left, right = both
    return put_together(mirrored(right), mirrored(left))


def left_fold(number):
    """The tree that folds so many values from the left."""
    check_number(number, 1, MOST_LEAVES)
    return list(range(number - 1, -1, -1))


def all_trees(number):
    """The list of all trees with so many leaves, ascending."""
    check_number(number, 1, MOST_LEAVES_OF_ALL)
    # Behind the nothing of no leaves stand the trees of each number of leaves.
    smaller = [[], [[0]]]
    for leaves in range(2, number + 1):
        smaller.append(_trees_of_two_parts(smaller, leaves))
    return smaller[number]


def _trees_of_two_parts(smaller, leaves):
    """All trees with so many leaves, two or more, from the lists of all smaller ones."""
    found = [
        put_together(left, right)
        for size in range(1, leaves)
        for left in smaller[size]
        for right in smaller[leaves - size]
    ]
    return sorted(found)
