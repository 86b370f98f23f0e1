"""The fewest rounds in which several workers can fold, and the least heights of trees."""

from cutfolds.checks import check_number, check_ring, check_tail
from cutfolds.errors import Stuck
from cutfolds.joinings import can_finish
from cutfolds.marks import next_mark
from cutfolds.trees import height, put_together

MOST_ROUNDS = 60


def fewest_rounds(number, tail, ring):
    """The fewest rounds in which so many values are folded so that it agrees with folding from the left."""
    check_number(number, 1, 10 ** 15)
    check_tail(tail)
    check_ring(ring)
    singles = min(_most_singles(tail), number - 1)
    rounds = 0
    most = 1
    while most < number - singles:
        most = _most_in_one_more(most, ring)
        rounds = rounds + 1
    return rounds + singles


def most_values(rounds, tail, ring):
    """The most values that can be folded in at most so many rounds so that it agrees with folding from the left."""
    check_number(rounds, 0, MOST_ROUNDS)
    check_tail(tail)
    check_ring(ring)
    singles = min(_most_singles(tail), rounds)
    most = 1
    for _ in range(rounds - singles):
        most = _most_in_one_more(most, ring)
    return most + singles


def least_height(marks, tail, ring):
    """The least height of a tree with these marks."""
    return height(flat_tree(marks, tail, ring))


def flat_tree(marks, tail, ring):
    """A tree with these marks that has the least height."""
    if not can_finish(marks, tail, ring):
        raise Stuck("no tree has these marks")
    return _flat_parts(marks, tail, ring)[0, len(marks) - 1]


def _most_singles(tail):
    """How many values at the end must be put in one by one, if there are so many behind the first one."""
    return max(0, tail - 1)


def _most_in_one_more(most, ring):
    """The most values for one round more, by a tail of 0 or 1."""
    # The left part may have any size, that of the right one leaves 1 modulo the ring.
    return most + most - (most - 1) % ring


def _flat_parts(marks, tail, ring):
    """A dict: a part of the least height for each stretch, from a first to a last leaf, that can be a part."""
    heights = {(leaf, leaf): 0 for leaf in range(len(marks))}
    trees = {(leaf, leaf): [0] for leaf in range(len(marks))}
    for size in range(1, len(marks)):
        for first in range(len(marks) - size):
            last = first + size
            wanted = next_mark(marks[last], tail, ring)
            ways = [
                (1 + max(heights[first, middle], heights[middle + 1, last]), middle)
                for middle in range(first, last)
                if marks[middle] == wanted and (first, middle) in heights and (middle + 1, last) in heights
            ]
            if ways:
                heights[first, last], split = min(ways)
                trees[first, last] = put_together(trees[first, split], trees[split + 1, last])
    return trees
