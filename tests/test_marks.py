"""cutfolds/marks.py: [8], [9], [16], [23]."""

import itertools
import random
import unittest

from cutfolds.errors import InvalidNumber, InvalidRing, InvalidTail, UnequalLeaves
from cutfolds.marks import are_alike, fold_marks, mark, marks_of, parting_leaf, parting_size
from cutfolds.operations import cycle_of_letters, fold_texts
from cutfolds.trees import all_trees, left_fold, parts
from tests import support
from tests.support import Promises, depths_of

MANY = 10 ** 25 - 1
WRONG_TAILS = [-1, 41, 42, -40, 10000, MANY, -MANY] + support.no_numbers()
WRONG_RINGS = [0, -1, 10001, 10002, -10000, MANY, -MANY] + support.no_numbers()
SMALL_PAIRS = [(tail, ring) for tail in range(5) for ring in range(1, 5)]
PAIRS = SMALL_PAIRS + [(0, 40), (1, 38), (12, 7), (39, 1), (40, 1), (40, 10000), (0, 10000), (38, 3)]


class Examples(Promises):

    def test_of_the_interface(self):
        self.assert_same(
            ([mark(depth, 1, 3) for depth in range(6)], marks_of([3, 2, 1, 0], 0, 2), fold_marks(5, 2, 1)),
            ([0, 1, 2, 3, 1, 2], [1, 0, 1, 0], [2, 2, 2, 1, 0]),
        )
        self.assert_same(
            (are_alike([3, 2, 1, 0], [1, 2, 1, 0], 0, 2), parting_leaf([3, 2, 1, 0], [1, 1, 1, 0], 0, 2)),
            (True, 2),
        )
        self.assert_same(
            (parting_size(0, 2, 1, 2), parting_size(0, 1, 0, 2), parting_size(0, 2, 2, 1)), (None, 3, 4)
        )


class Mark(Promises):

    def test_each_is_the_one_next_to_the_one_before(self):
        for tail, ring in PAIRS + [(7, 9), (13, 100), (40, 37)]:
            told = support.marks_by_walking(150, tail, ring)
            for depth in range(151):
                self.assert_same(mark(depth, tail, ring), told[depth])

    def test_no_tail_and_a_ring_of_one(self):
        for depth in (0, 1, 2, 40, MANY):
            self.assert_same(mark(depth, 0, 1), 0)

    def test_edges_of_tail_and_ring(self):
        for depth, told in ((0, 0), (39, 39), (40, 40), (41, 40), (MANY, 40)):
            self.assert_same(mark(depth, 40, 1), told)
        for depth, told in ((39, 39), (40, 40), (10038, 10038), (10039, 10039), (10040, 40), (20039, 10039)):
            self.assert_same(mark(depth, 40, 10000), told)
        for depth, told in ((9999, 9999), (10000, 0), (10001, 1), (20000, 0)):
            self.assert_same(mark(depth, 0, 10000), told)

    def test_depths_of_many_digits(self):
        self.assert_same(mark(10 ** 24, 0, 10000), 0)
        self.assert_same(mark(10 ** 24 + 7, 3, 10000), 7)
        self.assert_same(mark(10 ** 24 + 2, 3, 10000), 10002)
        self.assert_same(mark(10 ** 24, 0, 7), 1)
        self.assert_same(mark(10 ** 24, 2, 7), 8)
        self.assert_same(mark(MANY, 1, 9), 9)
        self.assert_same(mark(MANY, 40, 9), 45)
        self.assert_same(mark(MANY, 40, 2), 41)
        source = random.Random(8)
        for _ in range(300):
            tail, ring = source.randint(0, 40), source.randint(1, 10000)
            digits = source.randint(1, 25)
            depth = source.randint(0, 10 ** digits - 1)
            found = mark(depth, tail, ring)
            if depth < tail:
                self.assert_same(found, depth)
            else:
                self.assertTrue(tail <= found < tail + ring)
                self.assertEqual((depth - found) % ring, 0)

    def test_wrong_depths(self):
        for depth in [-1, -2, -40, -MANY] + support.no_numbers():
            self.assert_error(InvalidNumber, {"number": depth}, mark, depth, 0, 2)

    def test_wrong_tails_and_rings(self):
        for tail in WRONG_TAILS:
            self.assert_error(InvalidTail, {"tail": tail}, mark, 3, tail, 2)
        for ring in WRONG_RINGS:
            self.assert_error(InvalidRing, {"ring": ring}, mark, 3, 0, ring)


class MarksOf(Promises):

    def test_all_small_and_some_large_trees(self):
        shapes = [shape for leaves in range(1, 7) for shape in support.shapes(leaves)]
        for tail, ring in PAIRS:
            told = support.marks_by_walking(40, tail, ring)
            for shape in shapes + support.large_shapes():
                tree = depths_of(shape)
                self.assert_same(marks_of(tree, tail, ring), [told[depth] for depth in tree])

    def test_a_tail_that_reaches_all_leaves(self):
        for shape in support.large_shapes():
            tree = depths_of(shape)
            found = marks_of(tree, 40, 1)
            self.assert_same(found, tree)
            self.assertIsNot(found, tree)

    def test_one_leaf(self):
        for tail, ring in PAIRS:
            self.assert_same(marks_of([0], tail, ring), [0])

    def test_last_leaf_of_each_left_part(self):
        for tail, ring in PAIRS:
            following = {one: two for one, two in itertools.pairwise(support.marks_by_walking(50, tail, ring))}
            for shape in support.large_shapes():
                self.check_left_parts(depths_of(shape), tail, ring, following)

    def check_left_parts(self, tree, tail, ring, following):
        marks = marks_of(tree, tail, ring)
        waiting = [(0, tree)]
        while waiting:
            start, part = waiting.pop()
            if len(part) > 1:
                left, right = parts(part)
                middle = start + len(left)
                self.assertEqual(marks[middle - 1], following[marks[start + len(part) - 1]])
                waiting += [(start, left), (middle, right)]

    def test_wrong_tails_and_rings(self):
        for tail in WRONG_TAILS:
            self.assert_error(InvalidTail, {"tail": tail}, marks_of, [1, 0], tail, 2)
        for ring in WRONG_RINGS:
            self.assert_error(InvalidRing, {"ring": ring}, marks_of, [1, 0], 0, ring)


class FoldMarks(Promises):

    def test_all_numbers(self):
        for tail, ring in PAIRS:
            told = support.marks_by_walking(40, tail, ring)
            for number in range(1, 41):
                found = fold_marks(number, tail, ring)
                self.assert_same(found, [told[number - leaf] for leaf in range(1, number + 1)])
                self.assert_same(found, marks_of(left_fold(number), tail, ring))

    def test_ends(self):
        self.assert_same(fold_marks(1, 0, 1), [0])
        self.assert_same(fold_marks(1, 40, 10000), [0])
        self.assert_same(fold_marks(40, 0, 1), [0] * 40)
        self.assert_same(fold_marks(40, 40, 10000), list(range(39, -1, -1)))

    def test_wrong_numbers(self):
        for number in [0, 41, 42, -1, MANY, -MANY] + support.no_numbers():
            self.assert_error(InvalidNumber, {"number": number}, fold_marks, number, 0, 2)

    def test_wrong_tails_and_rings(self):
        for tail in WRONG_TAILS:
            self.assert_error(InvalidTail, {"tail": tail}, fold_marks, 3, tail, 2)
        for ring in WRONG_RINGS:
            self.assert_error(InvalidRing, {"ring": ring}, fold_marks, 3, 0, ring)


class TreesThatAgree(Promises):

    def test_all_pairs_of_small_trees(self):
        for tail, ring in SMALL_PAIRS + [(0, 9), (9, 1), (40, 10000)]:
            told = support.marks_by_walking(10, tail, ring)
            for leaves in range(1, 6):
                for tree, other in itertools.product(all_trees(leaves), repeat=2):
                    differ = [at + 1 for at in range(leaves) if told[tree[at]] != told[other[at]]]
                    self.assert_same(parting_leaf(tree, other, tail, ring), (differ + [None])[0])
                    self.assert_same(are_alike(tree, other, tail, ring), differ == [])

    def test_large_trees(self):
        comb = [1] * 39 + [0]
        self.assert_same(are_alike(left_fold(40), comb, 0, 1), True)
        self.assert_same(parting_leaf(left_fold(40), comb, 0, 1), None)
        self.assert_same(are_alike(left_fold(40), comb, 1, 1), True)
        self.assert_same(parting_leaf(left_fold(40), comb, 0, 2), 2)
        self.assert_same(parting_leaf(left_fold(40), comb, 0, 3), 1)
        self.assert_same(parting_leaf(left_fold(40), comb, 0, 38), 2)
        self.assert_same(parting_leaf(left_fold(40), left_fold(40), 40, 10000), None)
        self.assert_same(parting_leaf(left_fold(40), left_fold(38)[:37] + [1, 1, 0], 0, 2), 38)
        self.assert_same(parting_leaf(left_fold(40), [1, 38] + left_fold(38), 0, 38), None)
        self.assert_same(parting_leaf(left_fold(40), [1, 38] + left_fold(38), 1, 38), None)
        self.assert_same(parting_leaf(left_fold(40), [1, 38] + left_fold(38), 2, 38), 1)
        self.assert_same(parting_leaf(left_fold(40), [1, 38] + left_fold(38), 0, 37), 1)

    def test_one_list_twice(self):
        tree = [2, 1, 0]
        self.assert_same((are_alike(tree, tree, 0, 2), parting_leaf(tree, tree, 0, 2)), (True, None))

    def test_results_are_the_same_exactly_if_trees_agree(self):
        for tail, ring in SMALL_PAIRS:
            letters = support.chain_of_letters(tail, ring)
            self.assertEqual(cycle_of_letters(letters), (tail, ring))
            for leaves in range(1, 7):
                trees = all_trees(leaves)
                results = [fold_texts(tree, letters, ["a"] * leaves) for tree in trees]
                for tree, result in zip(trees, results):
                    for other, other_result in zip(trees[::3], results[::3]):
                        self.assertIs(are_alike(tree, other, tail, ring), result == other_result)

    def test_unequal_leaves(self):
        for call in (are_alike, parting_leaf):
            for first, second in ((1, 2), (2, 1), (1, 40), (40, 1), (39, 40), (5, 3)):
                told = {"first": first, "second": second}
                self.assert_error(UnequalLeaves, told, call, left_fold(first), left_fold(second), 0, 2)

    def test_unequal_leaves_come_ahead_of_tail_and_ring(self):
        for call in (are_alike, parting_leaf):
            told = {"first": 2, "second": 1}
            self.assert_error(UnequalLeaves, told, call, [1, 0], [0], None, None)
            self.assert_error(UnequalLeaves, told, call, [1, 0], [0], -1, 2)
            self.assert_error(UnequalLeaves, told, call, [1, 0], [0], 0, 0)

    def test_wrong_tails_and_rings(self):
        for call in (are_alike, parting_leaf):
            for tail in WRONG_TAILS:
                self.assert_error(InvalidTail, {"tail": tail}, call, [1, 0], [1, 0], tail, 2)
            for ring in WRONG_RINGS:
                self.assert_error(InvalidRing, {"ring": ring}, call, [1, 0], [1, 0], 0, ring)


class FoldFromTheLeft(Promises):
    """[16]: which trees agree with the fold from the left."""

    def test_all_small_trees(self):
        for tail, ring in SMALL_PAIRS:
            for leaves in range(1, 8):
                for tree in all_trees(leaves):
                    told = right_parts_are_as_told(tree, tail, ring)
                    self.assert_same(are_alike(left_fold(leaves), tree, tail, ring), told)
                    self.assert_same(marks_of(tree, tail, ring) == fold_marks(leaves, tail, ring), told)


def right_parts_are_as_told(tree, tail, ring):
    """The second sentence of [16], for all parts of a tree."""
    waiting = [(0, tree)]
    while waiting:
        start, part = waiting.pop()
        if len(part) > 1:
            left, right = parts(part)
            many, last = len(right), start + len(part)
            if many != 1 and not (len(tree) - last + 1 >= tail and (many - 1) % ring == 0):
                return False
            waiting += [(start, left), (start + len(left), right)]
    return True


class PartingSize(Promises):

    def test_by_all_small_trees(self):
        pairs = SMALL_PAIRS + [(0, 5), (5, 1), (1, 5), (5, 2)]
        classes = {pair: [classes_of(leaves, *pair) for leaves in range(1, 9)] for pair in pairs}
        for pair, other in itertools.product(pairs, repeat=2):
            found = parting_size(*pair, *other)
            sizes = [
                leaves for leaves in range(1, 9)
                if classes[pair][leaves - 1] != classes[other][leaves - 1]
            ]
            if found is None or found > 8:
                self.assertEqual(sizes, [])
            else:
                self.assertIs(type(found), int)
                self.assertEqual(sizes[0], found)

    def test_pairs_that_let_the_same_trees_agree(self):
        for tail in range(41):
            for ring in (1, 2, 7, 9999, 10000):
                self.assert_same(parting_size(tail, ring, tail, ring), None)
        for ring in (1, 2, 3, 10000):
            self.assert_same(parting_size(0, ring, 1, ring), None)
            self.assert_same(parting_size(1, ring, 0, ring), None)
            self.assert_same(parting_size(0, ring, 2, ring), ring + 2)
            self.assert_same(parting_size(2, ring, 1, ring), ring + 2)

    def test_great_numbers(self):
        self.assert_same(parting_size(40, 10000, 39, 10000), 10040)
        self.assert_same(parting_size(40, 9999, 40, 10000), 10040)
        self.assert_same(parting_size(40, 10000, 0, 1), 3)
        self.assert_same(parting_size(0, 1, 40, 10000), 3)
        self.assert_same(parting_size(0, 10000, 1, 9999), 10001)
        self.assert_same(parting_size(40, 1, 1, 40), 42)
        self.assert_same(parting_size(40, 1, 0, 40), 42)
        self.assert_same(parting_size(40, 1, 2, 40), 42)
        self.assert_same(parting_size(40, 1, 39, 1), 41)

    def test_wrong_tails_and_rings(self):
        for tail in WRONG_TAILS:
            self.assert_error(InvalidTail, {"tail": tail}, parting_size, tail, 2, 0, 2)
            self.assert_error(InvalidTail, {"tail": tail}, parting_size, 0, 2, tail, 2)
        for ring in WRONG_RINGS:
            self.assert_error(InvalidRing, {"ring": ring}, parting_size, 0, ring, 0, 2)
            self.assert_error(InvalidRing, {"ring": ring}, parting_size, 0, 2, 0, ring)


def classes_of(leaves, tail, ring):
    """For each tree the first one in the list of all with which it agrees."""
    marks = support.marks_by_walking(leaves, tail, ring)
    first = {}
    return [first.setdefault(tuple(marks[depth] for depth in tree), at)
            for at, tree in enumerate(all_trees(leaves))]


if __name__ == "__main__":
    unittest.main()
