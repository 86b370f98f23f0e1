"""cutfolds/counts.py: [9], [10], [11], [13], [14], [15]."""

import itertools
import math
import random
import unittest

from cutfolds.counts import (
    classes, count_alike, count_classes, count_orders, count_trees, numbered_tree, tree_number,
)
from cutfolds.errors import InvalidMarks, InvalidNumber, InvalidRing, InvalidTail, InvalidTree
from cutfolds.joinings import greatest_tree, joined, least_tree, safe_joinings
from cutfolds.marks import fold_marks
from tests import support
from tests.support import Promises, depths_of

MANY = 10 ** 25 - 1
# A tail, a ring, and up to how many marks all rows are gone through.
SMALL = [
    (0, 1, 8), (0, 2, 8), (0, 3, 6), (0, 4, 5), (1, 1, 8), (1, 2, 6), (1, 3, 4), (2, 1, 6), (2, 2, 5), (3, 1, 5),
    (3, 2, 4), (4, 1, 4),
]
PAIRS = [
    (0, 1), (0, 2), (0, 3), (0, 5), (1, 1), (1, 2), (1, 4), (2, 1), (2, 2), (3, 2), (7, 4), (12, 1), (0, 39),
    (0, 10000), (1, 10000), (40, 1), (40, 10000),
]
COMB, FOLD = [1] * 39 + [0], list(range(39, -1, -1))
WRONG_TAILS = [-1, 41, MANY, -MANY] + support.no_numbers()
WRONG_RINGS = [0, -1, 10001, MANY, -MANY] + support.no_numbers()


def small_rows():
    """All small rows, each with its tail and ring and the trees with these marks."""
    for tail, ring, most in SMALL:
        for size in range(1, most + 1):
            trees = support.trees_by_marks(size, tail, ring)
            for row in support.all_rows(size, tail, ring):
                yield row, tail, ring, trees.get(tuple(row), [])


def large_trees():
    """Trees of up to 40 leaves, each with its marks."""
    for tail, ring in PAIRS:
        for shape in support.large_shapes()[::2]:
            tree = depths_of(shape)
            yield tree, support.marks_of_depths(tree, tail, ring), tail, ring


def stuck_rows():
    """Rows that cannot be finished."""
    return [
        ([1], 0, 2), ([0, 0], 0, 2), ([0, 1, 0, 0], 0, 2), ([0] * 39 + [1], 0, 2), ([0] * 40, 0, 2), ([0] * 40, 1, 1),
        ([1] * 40, 1, 1), ([2, 2, 0], 2, 1), ([40] * 40, 40, 1), ([9999, 0], 0, 10000), ([10039], 40, 10000),
    ]


class Examples(Promises):

    def test_of_the_interface(self):
        row = [0, 1, 0, 1, 0]
        self.assert_same(
            (count_trees(5), count_alike(row, 0, 2), count_orders(row, 0, 2), count_classes(5, 0, 2)), (14, 3, 5, 8)
        )
        self.assert_same(
            (classes(4, 0, 2), tree_number([2, 3, 2, 1, 0], 0, 2), numbered_tree(row, 0, 2, 2)),
            ([[0, 0, 1, 0], [0, 1, 1, 0], [1, 0, 1, 0], [1, 1, 1, 0]], 1, [4, 3, 2, 1, 0]),
        )


class Trees(Promises):

    def test_small_numbers_by_all_trees(self):
        for number in range(1, 10):
            self.assert_same(count_trees(number), len(support.shapes(number)))

    def test_all_numbers_by_the_sizes_of_the_parts(self):
        counts = [0, 1]
        for number in range(2, 41):
            counts.append(sum(counts[size] * counts[number - size] for size in range(1, number)))
        for number in range(1, 41):
            self.assert_same(count_trees(number), counts[number])

    def test_ends(self):
        self.assert_same((count_trees(1), count_trees(2), count_trees(3)), (1, 1, 2))
        self.assert_same(count_trees(40), 680425371729975800390)

    def test_wrong_numbers(self):
        for number in [0, -1, -40, 41, 42, MANY, -MANY] + support.no_numbers():
            self.assert_error(InvalidNumber, {"number": number}, count_trees, number)


class Alike(Promises):

    def test_all_small_rows_by_all_trees(self):
        for row, tail, ring, trees in small_rows():
            self.assert_same(count_alike(row, tail, ring), len(trees))

    def test_large_rows_by_stretches(self):
        source = random.Random(15)
        for _, row, tail, ring in large_trees():
            self.assert_same(count_alike(row, tail, ring), support.alike_by_stretches(row, tail, ring))
            at = source.randrange(len(row))
            other = row[:at] + [source.randrange(tail + ring)] + row[at + 1:]
            self.assert_same(count_alike(other, tail, ring), support.alike_by_stretches(other, tail, ring))

    def test_ends(self):
        self.assert_same(count_alike([0] * 40, 0, 1), count_trees(40))
        self.assert_same(count_alike(COMB, 1, 1), count_trees(40))
        self.assert_same(count_alike([2] * 38 + [1, 0], 2, 1), support.alike_by_stretches([2] * 38 + [1, 0], 2, 1))
        for tree in (COMB, FOLD, [1, 0], [0]):
            self.assert_same(count_alike(tree, 40, 1), 1)
            self.assert_same(count_alike(tree, 0, 10000), 1)
            self.assert_same(count_alike(tree, 40, 10000), 1)

    def test_none_where_the_row_cannot_be_finished(self):
        for row, tail, ring in stuck_rows():
            self.assert_same(count_alike(row, tail, ring), 0)


class NineLeaves(Promises):

    def test_by_all_trees_and_all_orders(self):
        for tail, ring in ((0, 1), (0, 2), (0, 3), (1, 2), (2, 1), (2, 2), (3, 2), (40, 1), (0, 10000)):
            following, known = support.next_marks(tail, ring), {}
            rows = support.trees_by_marks(9, tail, ring)
            self.assertEqual(sum(map(len, rows.values())), 1430)
            for key, trees in list(rows.items())[::5]:
                row = list(key)
                self.assert_same(count_alike(row, tail, ring), len(trees))
                self.assert_same(count_orders(row, tail, ring), support.orders_by_trying(row, following, known))
                for number, tree in list(enumerate(trees))[::17]:
                    self.assert_same(tree_number(tree, tail, ring), number)
                    self.assert_same(numbered_tree(row, tail, ring, number), tree)


class Orders(Promises):

    def test_all_small_rows_by_all_orders(self):
        known = {}
        for row, tail, ring, trees in small_rows():
            following = support.next_marks(tail, ring)
            told = support.orders_by_trying(row, following, known.setdefault((tail, ring), {}))
            self.assert_same(count_orders(row, tail, ring), told)
            self.assertEqual(told > 0, trees != [])

    def test_large_rows_by_stretches(self):
        source = random.Random(16)
        for _, row, tail, ring in large_trees():
            self.assert_same(count_orders(row, tail, ring), support.orders_by_stretches(row, tail, ring))
            at = source.randrange(len(row))
            other = row[:at] + [source.randrange(tail + ring)] + row[at + 1:]
            self.assert_same(count_orders(other, tail, ring), support.orders_by_stretches(other, tail, ring))

    def test_those_behind_each_safe_joining_added_up(self):
        for tree, row, tail, ring in list(large_trees())[::12]:
            places = safe_joinings(row, tail, ring)
            told = sum(count_orders(joined(row, tail, ring, place), tail, ring) for place in places)
            self.assert_same(count_orders(row, tail, ring), told)

    def test_ends(self):
        for number in range(1, 41):
            self.assert_same(count_orders([0] * number, 0, 1), math.factorial(number - 1))
            self.assert_same(count_orders(COMB[40 - number:], 1, 1), math.factorial(number - 1))
            self.assert_same(count_orders(FOLD[40 - number:], 40, 1), 1)
            self.assert_same(count_orders(FOLD[40 - number:], 0, 10000), 1)
            self.assert_same(count_orders(COMB[40 - number:], 40, 10000), 1)

    def test_an_even_tree_that_is_alone(self):
        tree = depths_of(((support.LEAF, support.LEAF), (support.LEAF, support.LEAF)))
        self.assert_same((count_alike(tree, 40, 1), count_orders(tree, 40, 1)), (1, 2))

    def test_none_where_the_row_cannot_be_finished(self):
        for row, tail, ring in stuck_rows():
            self.assert_same(count_orders(row, tail, ring), 0)


class Classes(Promises):

    def test_counts_by_all_trees(self):
        for number in range(1, 10):
            trees = [depths_of(shape) for shape in support.shapes(number)]
            for tail, ring in itertools.product((0, 1, 2, 3, 5, 8, 40), (1, 2, 3, 4, 7, 8, 9, 10000)):
                walked = support.marks_by_walking(9, tail, ring)
                rows = {tuple(walked[depth] for depth in tree) for tree in trees}
                self.assert_same(count_classes(number, tail, ring), len(rows))

    def test_counts_by_trees_from_which_no_step_goes_down(self):
        for tail, ring in ((0, 1), (0, 2), (0, 3), (1, 2), (2, 1), (2, 2), (3, 1), (4, 2)):
            for leaves in range(1, 9):
                least = [
                    tree for tree in map(depths_of, support.shapes(leaves))
                    if all(up for _, up in support.steps_of(tree, tail, ring))
                ]
                self.assert_same(count_classes(leaves, tail, ring), len(least))

    def test_one_where_all_agree(self):
        for number in range(1, 41):
            for tail in (0, 1):
                self.assert_same(count_classes(number, tail, 1), 1)

    def test_a_ring_of_two_and_of_three(self):
        # Those of a ring of two are doubled, and those of a ring of three are told by this known formula.
        threes = [1, 1]
        for at in range(2, 40):
            threes.append((2 * at * threes[-1] + 3 * (at - 2) * threes[-2]) // at)
        for tail in (0, 1):
            for number in range(2, 41):
                self.assert_same(count_classes(number, tail, 2), 2 ** (number - 2))
                self.assert_same(count_classes(number, tail, 3), threes[number - 1])

    def test_as_many_as_trees_where_no_two_agree(self):
        for number in range(1, 41):
            told = count_trees(number)
            for tail, ring in ((40, 1), (40, 10000), (0, 10000), (0, number), (number, 1), (1, number)):
                self.assert_same(count_classes(number, tail, ring), told)
        for number in range(3, 41):
            told = count_trees(number)
            self.assert_same(count_classes(number, 0, number - 1), told)
            self.assert_same(count_classes(number, number - 1, 1), told)
            # Of this number of leaves just two trees agree.
            self.assert_same(count_classes(number, 0, number - 2), told - 1)
            self.assert_same(count_classes(number, number - 2, 1), told - 1)

    def test_lists_by_all_trees(self):
        for tail, ring in ((0, 1), (0, 2), (0, 3), (1, 1), (1, 2), (2, 1), (2, 2), (3, 4), (40, 10000)):
            for number in range(1, 10):
                rows = support.trees_by_marks(number, tail, ring)
                found = classes(number, tail, ring)
                self.assert_same(found, [list(row) for row in sorted(rows)])
                self.assert_same(len(found), count_classes(number, tail, ring))

    def test_lists_of_one_leaf(self):
        for tail, ring in PAIRS:
            self.assert_same((classes(1, tail, ring), count_classes(1, tail, ring)), ([[0]], 1))
            self.assert_same(len(classes(2, tail, ring)), 1)

    def test_wrong_numbers(self):
        for number in [0, -1, -9, 41, 42, MANY, -MANY] + support.no_numbers():
            for call in (count_classes, classes):
                self.assert_error(InvalidNumber, {"number": number}, call, number, 0, 2)
                self.assert_error(InvalidNumber, {"number": number}, call, number, None, 0)
        for number in (10, 11, 40):
            self.assert_error(InvalidNumber, {"number": number}, classes, number, 0, 2)
            self.assert_error(InvalidNumber, {"number": number}, classes, number, -1, None)

    def test_wrong_tails_and_rings(self):
        for call in (count_classes, classes):
            for number in (1, 4):
                for tail in WRONG_TAILS:
                    self.assert_error(InvalidTail, {"tail": tail}, call, number, tail, 2)
                    self.assert_error(InvalidTail, {"tail": tail}, call, number, tail, 0)
                for ring in WRONG_RINGS:
                    self.assert_error(InvalidRing, {"ring": ring}, call, number, 0, ring)


class Numbers(Promises):

    def test_all_small_rows_there_and_back(self):
        for row, tail, ring, trees in small_rows():
            for number, tree in enumerate(trees):
                self.assert_same(tree_number(tree, tail, ring), number)
                self.assert_same(numbered_tree(row, tail, ring, number), tree)
            for number in (-1, len(trees), len(trees) + 1):
                self.assert_error(InvalidNumber, {"number": number}, numbered_tree, row, tail, ring, number)

    def test_large_trees_there_and_back(self):
        for tree, row, tail, ring in large_trees():
            number = tree_number(tree, tail, ring)
            self.assertIs(type(number), int)
            self.assertTrue(0 <= number < count_alike(row, tail, ring))
            self.assert_same(numbered_tree(row, tail, ring, number), tree)

    def test_large_numbers_back_and_there(self):
        source = random.Random(17)
        for _, row, tail, ring in list(large_trees())[::3]:
            many = count_alike(row, tail, ring)
            numbers = {0, 1, many // 2, many - 2, many - 1, source.randrange(many), source.randrange(many)}
            before = []
            for number in sorted(number for number in numbers if 0 <= number < many):
                tree = numbered_tree(row, tail, ring, number)
                self.assertTrue(support.is_tree(tree) and before < tree)
                self.assertEqual(support.marks_of_depths(tree, tail, ring), row)
                self.assert_same(tree_number(tree, tail, ring), number)
                before = tree

    def test_first_and_last(self):
        for _, row, tail, ring in large_trees():
            many = count_alike(row, tail, ring)
            self.assert_same(numbered_tree(row, tail, ring, 0), least_tree(row, tail, ring))
            self.assert_same(numbered_tree(row, tail, ring, many - 1), greatest_tree(row, tail, ring))
            for number in (many, many + 1, -1, -many, MANY):
                self.assert_error(InvalidNumber, {"number": number}, numbered_tree, row, tail, ring, number)

    def test_forty_leaves_of_one_mark(self):
        many = count_trees(40)
        self.assert_same((tree_number(COMB, 0, 1), tree_number(FOLD, 0, 1)), (0, many - 1))
        self.assert_same((tree_number(COMB, 1, 1), tree_number(FOLD, 1, 1)), (0, many - 1))
        self.assert_same(numbered_tree([0] * 40, 0, 1, many - 1), FOLD)
        self.assert_same(numbered_tree([0] * 40, 0, 1, 1), [1] * 37 + [2, 1, 0])
        self.assert_same(numbered_tree([0] * 40, 0, 1, many - 2), [38] + FOLD[1:])
        self.assert_error(InvalidNumber, {"number": many}, numbered_tree, [0] * 40, 0, 1, many)

    def test_a_tree_that_is_alone(self):
        for tree in (COMB, FOLD, [2, 1, 2, 1, 0], [0]):
            for tail, ring in ((40, 1), (0, 40), (40, 10000)):
                self.assert_same(tree_number(tree, tail, ring), 0)
                self.assert_same(numbered_tree(tree, tail, ring, 0), tree)
                self.assert_error(InvalidNumber, {"number": 1}, numbered_tree, tree, tail, ring, 1)

    def test_no_number_where_the_row_cannot_be_finished(self):
        for row, tail, ring in stuck_rows():
            for number in [0, 1, -1, 40, MANY, -MANY] + support.no_numbers():
                self.assert_error(InvalidNumber, {"number": number}, numbered_tree, row, tail, ring, number)

    def test_wrong_numbers(self):
        for row, tail, ring, many in (([0, 1, 0, 1, 0], 0, 2, 3), ([0], 0, 1, 1), (fold_marks(7, 0, 1), 0, 1, 132)):
            self.assertEqual(count_alike(row, tail, ring), many)
            for number in [-1, -2, many, many + 1, MANY, -MANY] + support.no_numbers():
                self.assert_error(InvalidNumber, {"number": number}, numbered_tree, row, tail, ring, number)

    def test_errors_in_their_order(self):
        self.assert_error(InvalidTail, {"tail": None}, numbered_tree, None, None, None, None)
        self.assert_error(InvalidRing, {"ring": None}, numbered_tree, None, 0, None, None)
        self.assert_error(InvalidMarks, {"index": None}, numbered_tree, None, 0, 1, None)
        self.assert_error(InvalidMarks, {"index": 1}, numbered_tree, [0, 1], 0, 1, None)
        self.assert_error(InvalidNumber, {"number": None}, numbered_tree, [0, 0], 0, 1, None)
        self.assert_error(InvalidTree, {"index": None}, tree_number, None, None, None)
        self.assert_error(InvalidTail, {"tail": 41}, tree_number, [0], 41, None)
        self.assert_error(InvalidRing, {"ring": 0}, tree_number, [0], 40, 0)


if __name__ == "__main__":
    unittest.main()
