"""[3]: each call within the bounds ends well within ten seconds."""

import random
import unittest

from cutfolds.errors import InvalidTree, InvalidValues
from cutfolds.marks import are_alike, fold_marks, mark, marks_of, parting_leaf, parting_size
from cutfolds.operations import cycle_of_factor, cycle_of_letters, fold_numbers, fold_texts, fold_with, weights
from cutfolds.trees import all_trees, height, left_fold, mirrored, parts, put_together
from tests import support
from tests.support import Promises, depths_of, ends_soon

MANY = 10 ** 25 - 1
ALPHABET = "abcdefghijklmnopqrstuvwxyz"
NEXT_LETTER = {name: ALPHABET[(at + 1) % 26] for at, name in enumerate(ALPHABET)}


def trees_of_forty():
    return [depths_of(shape) for shape in support.large_shapes() if support.leaves_of(shape) == 40]


class Trees(Promises):

    def test_forty_leaves(self):
        for tree in trees_of_forty():
            with ends_soon():
                left, right = parts(tree)
                self.assertEqual(put_together(left, right), tree)
                self.assertEqual(mirrored(mirrored(tree)), tree)
                self.assertTrue(6 <= height(tree) <= 39)

    def test_all_trees(self):
        with ends_soon():
            self.assertEqual(len(all_trees(9)), 1430)

    def test_very_long_lists(self):
        with ends_soon():
            for tree in ([0] * 10 ** 6, list(range(10 ** 6, -1, -1))):
                self.assert_error(InvalidTree, {"index": None}, height, tree)
                self.assert_error(InvalidValues, {"index": None}, fold_with, [0], len, max, tree)


class Operations(Promises):

    def test_cycles_of_factors(self):
        source = random.Random(3)
        factors = [MANY, -MANY, 2, 3, 11, -1, 10 ** 24] + [source.randint(-MANY, MANY) for _ in range(5)]
        for factor in factors:
            for modulus in (10000, 9999, 9973, 9967, 9941, 8192, 6561):
                with ends_soon():
                    tail, ring = cycle_of_factor(factor, modulus)
                self.assertTrue(0 <= tail <= 13 and 1 <= ring <= 9972)

    def test_cycles_of_twenty_six_letters(self):
        with ends_soon():
            self.assert_same(cycle_of_letters(NEXT_LETTER), (0, 26))
            for tail in range(26):
                told = (tail, 26 - tail)
                self.assert_same(cycle_of_letters(support.chain_of_letters(*told)), told)

    def test_numbers(self):
        for tree in trees_of_forty():
            for factor in (MANY, -MANY):
                with ends_soon():
                    told = [pow(factor, depth, 9973) for depth in tree]
                    self.assertEqual(weights(tree, factor, 9973), told)
                    found = fold_numbers(tree, factor, 9973, [-MANY] * 40)
                    self.assert_same(found, sum(told) * -MANY % 9973)

    def test_texts(self):
        for tree in trees_of_forty():
            with ends_soon():
                found = fold_texts(tree, NEXT_LETTER, ["az" * 1000] * 40)
            told = [ALPHABET[depth % 26] + ALPHABET[(depth + 25) % 26] for depth in tree]
            self.assertTrue(found == "".join(pair * 1000 for pair in told))

    def test_texts_that_were_returned(self):
        letters = support.chain_of_letters(25, 1)
        with ends_soon():
            text = fold_texts(left_fold(40), letters, ["a" * 2000] * 40)
            found = fold_texts(left_fold(40), letters, [text] * 40)
        self.assertEqual((len(text), len(found)), (80000, 3200000))
        self.assertEqual((found[0], found[-1]), ("z", "a"))

    def test_any_values(self):
        for tree in trees_of_forty():
            calls = []
            with ends_soon():
                fold_with(tree, calls.append, lambda one, two: calls.append(two), list(range(40)))
            self.assertEqual(len(calls), 78)


class Marks(Promises):

    def test_great_depths(self):
        for tail, ring in ((0, 1), (0, 10000), (40, 1), (40, 10000), (40, 9973)):
            with ends_soon():
                found = mark(MANY, tail, ring)
            self.assert_same(found, tail + (MANY - tail) % ring)

    def test_forty_leaves(self):
        comb = [1] * 39 + [0]
        for tree in trees_of_forty():
            with ends_soon():
                self.assert_same(marks_of(tree, 40, 10000), tree)
                self.assert_same(fold_marks(40, 0, 10000), left_fold(40))
                self.assert_same(are_alike(tree, comb, 40, 10000), tree == comb)
                self.assert_same(parting_leaf(tree, comb, 0, 1), None)

    def test_numbers_of_values_that_tell(self):
        with ends_soon():
            self.assert_same(parting_size(40, 10000, 40, 9999), 10040)
            self.assert_same(parting_size(40, 10000, 40, 10000), None)


if __name__ == "__main__":
    unittest.main()
