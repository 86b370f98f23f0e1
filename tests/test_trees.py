"""cutfolds/trees.py: [6], and [16] for the fold from the left."""

import itertools
import random
import unittest

from cutfolds.errors import InvalidNumber, InvalidTree
from cutfolds.trees import all_trees, height, left_fold, mirrored, parts, put_together
from tests import support
from tests.support import LEAF, Promises, depths_of


def small_shapes():
    return [shape for leaves in range(1, 8) for shape in support.shapes(leaves)]


class Examples(Promises):

    def test_of_the_interface(self):
        self.assert_same(
            (parts([2, 1, 1, 0]), put_together([0], [1, 0]), height([2, 1, 1, 0]), mirrored([2, 1, 0])),
            (([1, 0], [1, 0]), [1, 1, 0], 2, [1, 1, 0]),
        )
        self.assert_same(
            (left_fold(4), all_trees(4)),
            ([3, 2, 1, 0], [[1, 1, 1, 0], [1, 2, 1, 0], [2, 1, 1, 0], [2, 2, 1, 0], [3, 2, 1, 0]]),
        )


class WhatTreesAre(Promises):
    """The lists that tell trees are just those that [6] describes."""

    def test_every_short_list(self):
        for leaves in range(1, 6):
            told = [depths_of(shape) for shape in support.shapes(leaves)]
            for row in itertools.product(range(-1, 7), repeat=leaves):
                if list(row) in told:
                    height(list(row))
                else:
                    self.assert_error(InvalidTree, {"index": first_wrong(row)}, height, list(row))

    def test_short_lists_of_mixed_things(self):
        for leaves in range(1, 5):
            told = [depths_of(shape) for shape in support.shapes(leaves)]
            for row in itertools.product([0, 1, 2, True, False, None, 1.0, "1"], repeat=leaves):
                index = first_wrong(row)
                if index is None:
                    self.assertIn(list(row), told)
                    height(list(row))
                else:
                    self.assert_error(InvalidTree, {"index": index}, height, list(row))

    def test_numbers_of_many_digits(self):
        many = 10 ** 25 - 1
        for row, index in (
            ([many], 0), ([-many], 0), ([many, 0], 1), ([1, many], 1), ([1, -many], 1), ([2, many, 0], 2),
            ([many, many - 1, 0], 2), ([-many, 1, 0], 0),
        ):
            self.assert_error(InvalidTree, {"index": index}, height, row)

    def test_one_leaf(self):
        self.assert_same(height([0]), 0)
        for number in (1, 2, -1):
            self.assert_error(InvalidTree, {"index": 0}, height, [number])

    def test_forty_and_more(self):
        self.assert_same(height(list(range(39, -1, -1))), 39)
        self.assert_error(InvalidTree, {"index": None}, height, list(range(40, -1, -1)))
        self.assert_error(InvalidTree, {"index": None}, height, [1] * 40 + [0])
        self.assert_error(InvalidTree, {"index": None}, height, [0] * 41)
        self.assert_error(InvalidTree, {"index": None}, height, [])


def first_wrong(row):
    """The index that InvalidTree tells for a list of 1 to 40 things; None for a tree."""
    last = len(row) - 1
    for index, thing in enumerate(row):
        if type(thing) is not int or thing < (1 if index < last else 0):
            return index
        if index > 0 and thing < row[index - 1] - 1:
            return index
    return None if row[last] == 0 else last


class Parts(Promises):

    def test_one_leaf(self):
        self.assertIsNone(parts([0]))

    def test_all_small_and_some_large_trees(self):
        for shape in small_shapes() + support.large_shapes():
            if shape != LEAF:
                told = (depths_of(shape[0]), depths_of(shape[1]))
                self.assert_same(parts(depths_of(shape)), told)

    def test_kinds(self):
        both = parts([2, 1, 1, 0])
        self.assertIs(type(both), tuple)
        self.assertEqual([type(part) for part in both], [list, list])

    def test_two_lists(self):
        left, right = parts([1, 0])
        self.assertIsNot(left, right)
        left.append(5)
        self.assert_same((right, parts([1, 0])), ([0], ([0], [0])))

    def test_put_together_again(self):
        for shape in support.large_shapes():
            left, right = parts(depths_of(shape))
            self.assert_same(put_together(left, right), depths_of(shape))


class PutTogether(Promises):

    def test_all_small_trees(self):
        for left in small_shapes()[:60]:
            for right in small_shapes()[:60]:
                told = depths_of((left, right))
                self.assert_same(put_together(depths_of(left), depths_of(right)), told)

    def test_one_list_twice(self):
        tree = [1, 0]
        self.assert_same(put_together(tree, tree), [2, 1, 1, 0])
        self.assert_same(tree, [1, 0])

    def test_forty_leaves(self):
        for size in range(1, 40):
            left, right = support.left_comb(size), support.right_comb(40 - size)
            told = depths_of((left, right))
            self.assert_same(put_together(depths_of(left), depths_of(right)), told)

    def test_more_than_forty_leaves(self):
        for size in range(1, 41):
            for more in (41 - size, 40):
                self.assert_error(
                    InvalidTree, {"index": None}, put_together, left_fold(size), left_fold(more)
                )

    def test_wrong_parts_come_before_too_many_leaves(self):
        long, wrong = left_fold(40), [1] * 39 + [7]
        self.assert_error(InvalidTree, {"index": 39}, put_together, long, wrong)
        self.assert_error(InvalidTree, {"index": 39}, put_together, wrong, long)
        self.assert_error(InvalidTree, {"index": 1}, put_together, [4, 0], [5, 5, 0])
        self.assert_error(InvalidTree, {"index": 2}, put_together, [1, 0], [5, 5, 0])


class Height(Promises):

    def test_all_small_and_some_large_trees(self):
        for shape in small_shapes() + support.large_shapes():
            self.assert_same(height(depths_of(shape)), support.height_of(shape))

    def test_high_and_flat_trees_of_forty_leaves(self):
        self.assert_same(height(depths_of(support.left_comb(40))), 39)
        self.assert_same(height(depths_of(support.right_comb(40))), 39)
        self.assert_same(height(depths_of(support.even_shape(40))), 6)


class Mirrored(Promises):

    def test_all_small_and_some_large_trees(self):
        for shape in small_shapes() + support.large_shapes():
            tree = depths_of(shape)
            self.assert_same(mirrored(tree), depths_of(support.mirror_of(shape)))
            self.assert_same(mirrored(mirrored(tree)), tree)

    def test_one_leaf(self):
        tree = [0]
        found = mirrored(tree)
        self.assert_same(found, [0])
        self.assertIsNot(found, tree)

    def test_fold_from_the_left(self):
        self.assert_same(mirrored(left_fold(40)), [1] * 39 + [0])
        self.assert_same(mirrored([1] * 39 + [0]), left_fold(40))


class LeftFold(Promises):

    def test_all_numbers(self):
        for number in range(1, 41):
            tree = left_fold(number)
            self.assert_same(tree, depths_of(support.left_comb(number)))
            self.assert_same(tree, [number - leaf for leaf in range(1, number + 1)])

    def test_ends(self):
        self.assert_same(left_fold(1), [0])
        self.assert_same(left_fold(2), [1, 0])
        self.assert_same(left_fold(40), list(range(39, -1, -1)))

    def test_wrong_numbers(self):
        for number in [0, 41, 42, -1, -40, 10 ** 24, -10 ** 24] + support.no_numbers():
            self.assert_error(InvalidNumber, {"number": number}, left_fold, number)


class AllTrees(Promises):

    def test_all_numbers(self):
        for number in range(1, 10):
            found = all_trees(number)
            self.assertEqual(found, sorted(depths_of(shape) for shape in support.shapes(number)))
            self.assertEqual({type(depth) for tree in found for depth in tree}, {int})

    def test_how_many(self):
        counts = [len(all_trees(number)) for number in range(1, 10)]
        self.assertEqual(counts, [1, 1, 2, 5, 14, 42, 132, 429, 1430])

    def test_ends(self):
        self.assert_same(all_trees(1), [[0]])
        self.assert_same(all_trees(2), [[1, 0]])
        self.assert_same((all_trees(9)[0], all_trees(9)[-1]), ([1] * 8 + [0], left_fold(9)))

    def test_every_list_is_new(self):
        for number in (1, 2, 5, 9):
            one, other = all_trees(number), all_trees(number)
            lists = [one, other] + one + other
            self.assertEqual(len({id(row) for row in lists}), len(lists))
            told = [list(tree) for tree in one]
            for tree in one:
                tree.clear()
            one.clear()
            self.assertEqual(other, told)
            self.assertEqual(all_trees(number), told)

    def test_wrong_numbers(self):
        for number in [0, 10, 11, 40, -1, -9, 10 ** 24, -10 ** 24] + support.no_numbers():
            self.assert_error(InvalidNumber, {"number": number}, all_trees, number)


class LeafDepths(Promises):
    """[6]: what the numbers of a tree mean, leaf by leaf."""

    def test_left_parts_above_each_leaf(self):
        source = random.Random(6)
        for _ in range(30):
            tree = depths_of(support.random_shape(source.randint(1, 40), source))
            self.assert_same(left_parts_above(tree), tree)


def left_parts_above(tree):
    """The number of left parts in which each leaf lies, by taking a tree apart."""
    counts = [0] * len(tree)
    waiting = [(0, tree)]
    while waiting:
        start, part = waiting.pop()
        both = parts(part)
        if both is not None:
            left, right = both
            for leaf in range(start, start + len(left)):
                counts[leaf] += 1
            waiting += [(start, left), (start + len(left), right)]
    return counts


if __name__ == "__main__":
    unittest.main()
