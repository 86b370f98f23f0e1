"""Counts of trees, of orders of joinings and of rows of marks, and the numbers of trees."""

from math import comb

from cutfolds.checks import MOST_LEAVES, check_marks, check_number, check_ring, check_tail
from cutfolds.marks import mark, marks_of, next_mark
from cutfolds.trees import all_trees


def count_trees(number):
    """The number of trees with so many leaves."""
    check_number(number, 1, MOST_LEAVES)
    return comb(2 * number - 2, number - 1) // number


def count_alike(marks, tail, ring):
    """The number of trees with these marks."""
    check_marks(marks, tail, ring)
    return _count_all(_endings(marks, tail, ring))


def count_orders(marks, tail, ring):
    """The number of orders of joinings that finish a row of marks."""
    check_marks(marks, tail, ring)
    if marks[-1] != 0:
        return 0
    orders = {(leaf, leaf): 1 for leaf in range(len(marks))}
    for size in range(1, len(marks)):
        for first in range(len(marks) - size):
            last = first + size
            wanted = next_mark(marks[last], tail, ring)
            # The joinings of both sides can be mixed in any way, and then comes the one of the two.
            orders[first, last] = sum([
                orders[first, middle] * orders[middle + 1, last] * comb(size - 1, middle - first)
                for middle in range(first, last) if marks[middle] == wanted
            ])
    return orders[0, len(marks) - 1]


def count_classes(number, tail, ring):
    """The number of rows of marks of all trees with so many leaves."""
    check_number(number, 1, MOST_LEAVES)
    check_tail(tail)
    check_ring(ring)
    # Of the trees with the same marks just the least has no step down, so such trees are counted:
    # for each left depth the beginnings that end with it. What stands ahead of the first leaf
    # asks for nothing.
    beginnings = {1: 1}
    for most in range(number - 1, 0, -1):
        beginnings = {
            depth: _count_before(beginnings, depth, tail, ring) for depth in range(1, most + 1)
        }
    return beginnings[1]


def classes(number, tail, ring):
    """The list, ascending, of the rows of marks of all trees with so many leaves."""
    trees = all_trees(number)
    rows = sorted({tuple(marks_of(tree, tail, ring)) for tree in trees})
    return [list(row) for row in rows]


def tree_number(tree, tail, ring):
    """The number, from 0, of a tree in the ascending list of all trees with the same marks."""
    endings = _endings(marks_of(tree, tail, ring), tail, ring)
    number = 0
    least = 0
    for index, depth in enumerate(tree):
        ahead = [many for other, many in endings[index].items() if least <= other < depth]
        number = number + sum(ahead)
        least = depth - 1
    return number


def numbered_tree(marks, tail, ring, number):
    """The tree with a number, from 0, in the ascending list of all trees with these marks."""
    check_marks(marks, tail, ring)
    endings = _endings(marks, tail, ring)
    check_number(number, 0, _count_all(endings) - 1)
    tree = []
    least = 0
    for ending in endings:
        depth, number = _numbered_depth(ending, least, number)
        tree.append(depth)
        least = depth - 1
    return tree


def _endings(marks, tail, ring):
    """For each leaf a dict: the left depths, ascending, that have its mark and may stand in a tree.

    Each one leads to the number of ways in which the leaves behind it can go on.
    """
    endings = [{0: 1} if marks[-1] == 0 else {}]
    for index in range(len(marks) - 2, -1, -1):
        # A leaf has at most as great a left depth as there are leaves behind it.
        depths = [
            depth for depth in range(1, len(marks) - index) if mark(depth, tail, ring) == marks[index]
        ]
        behind = endings[-1]
        endings.append({depth: _count_behind(behind, depth) for depth in depths})
    return endings[::-1]


def _count_behind(behind, depth):
    """The number of ways to go on behind a left depth, from those of the next leaf."""
    return sum([many for following, many in behind.items() if following >= depth - 1])


def _count_all(endings):
    """The number of trees, whatever the left depth of the first leaf."""
    return sum(endings[0].values())


def _numbered_depth(ending, least, number):
    """The left depth, from `least` on, of the tree with a number, and its number among those with it."""
    for depth, many in ending.items():
        if depth >= least:
            if number < many:
                return depth, number
            number = number - many
    return None


def _count_before(beginnings, depth, tail, ring):
    """The number of beginnings behind which a leaf of this left depth has no step down."""
    return sum([
        many for before, many in beginnings.items()
        if before - 1 <= depth < max(1, tail, before - 1) + ring
    ])
