"""cutfolds/rounds.py: [18], with [16] and [17]."""

import functools
import random
import unittest

from cutfolds.errors import InvalidMarks, InvalidNumber, InvalidRing, InvalidTail, Stuck
from cutfolds.marks import fold_marks, marks_of
from cutfolds.pieces import cut_tree, is_safe
from cutfolds.rounds import fewest_rounds, flat_tree, least_height, most_values
from cutfolds.trees import height
from tests import support
from tests.support import Promises, depths_of, height_of

MANY = 10 ** 25 - 1
MOST = 10 ** 15
PAIRS = [
    (0, 1), (0, 2), (0, 3), (0, 4), (0, 5), (1, 1), (1, 2), (1, 3), (2, 1), (2, 2), (2, 3), (3, 1), (3, 2), (4, 1),
    (4, 3), (5, 2), (7, 1),
]
LARGE_PAIRS = PAIRS + [
    (12, 7), (0, 10), (0, 38), (0, 39), (0, 40), (0, 10000), (1, 10000), (2, 10000), (39, 1), (40, 1), (40, 2),
    (40, 10000),
]
# Up to how many marks all rows are gone through.
SMALL = [(0, 1, 8), (0, 2, 8), (0, 3, 6), (1, 1, 7), (1, 2, 6), (2, 1, 6), (2, 2, 5), (3, 1, 5), (3, 2, 4)]
WRONG_TAILS = [-1, 41, MANY, -MANY] + support.no_numbers()
WRONG_RINGS = [0, -1, 10001, MANY, -MANY] + support.no_numbers()


@functools.cache
def most_by_formula(rounds, ring):
    """N of [18]."""
    if rounds == 0:
        return 1
    before = most_by_formula(rounds - 1, ring)
    # The greatest number up to it that leaves 1, looked for from it on downwards.
    return before + next(size for size in range(before, 0, -1) if (size - 1) % ring == 0)


def rounds_by_formula(number, tail, ring):
    """[18]: the last values one by one, the others in as few rounds as N tells."""
    singles = min(tail - 1, number - 1) if tail > 1 else 0
    return singles + next(rounds for rounds in range(number) if most_by_formula(rounds, ring) >= number - singles)


@functools.cache
def heights_by_marks(leaves, tail, ring):
    """A dict from each row of marks of trees with so many leaves to their least height."""
    found = {}
    for shape in support.shapes(leaves):
        row = tuple(support.marks_of_depths(depths_of(shape), tail, ring))
        found[row] = min(height_of(shape), found.get(row, leaves))
    return found


def rounds_by_trying(row, following):
    """In how many rounds of joinings without a common part a row comes to the mark 0; None if it does not."""
    rows, rounds = {tuple(row)}, 0
    while rows and (0,) not in rows:
        rows = {
            tuple(support.row_behind(list(one), *places))
            for one in rows for places in support.sets_of_places(support.places_by_rule(list(one), following)) if places
        }
        rounds += 1
    return rounds if rows else None


def large_rows():
    """Rows of up to 40 marks that can be finished, each with a tree, and such with one other mark."""
    source = random.Random(18)
    for tail, ring in LARGE_PAIRS:
        for shape in support.large_shapes()[::2]:
            row = support.marks_of_depths(depths_of(shape), tail, ring)
            at = source.randrange(len(row))
            yield row, row[:at] + [source.randrange(min(tail + ring, 45))] + row[at + 1:], shape, tail, ring


class Examples(Promises):

    def test_of_the_interface(self):
        self.assert_same(
            (
                [most_values(rounds, 0, 2) for rounds in range(7)], fewest_rounds(40, 0, 2), fewest_rounds(40, 3, 2),
                fewest_rounds(2, 3, 1), most_values(3, 0, 1),
            ),
            ([1, 2, 3, 6, 11, 22, 43], 6, 8, 1, 8),
        )
        self.assert_same((least_height([0, 1, 0, 1, 0], 0, 2), least_height([1, 1, 1, 0], 0, 2)), (3, 3))


class FewestRounds(Promises):

    def test_small_numbers_by_all_trees(self):
        for tail, ring in PAIRS:
            for number in range(1, 9):
                row = tuple(support.marks_of_depths(list(range(number - 1, -1, -1)), tail, ring))
                told = heights_by_marks(number, tail, ring)[row]
                self.assert_same(fewest_rounds(number, tail, ring), told)

    def test_numbers_up_to_forty_by_the_least_height(self):
        for tail, ring in LARGE_PAIRS[::2] + [(0, 6), (1, 7), (6, 5), (20, 3)]:
            for number in list(range(1, 20)) + [23, 31, 32, 33, 39, 40]:
                told = least_height(fold_marks(number, tail, ring), tail, ring)
                self.assert_same(fewest_rounds(number, tail, ring), told)

    def test_by_the_formula(self):
        for tail, ring in LARGE_PAIRS:
            for number in list(range(1, 90)) + [127, 128, 129, 255, 500]:
                self.assert_same(fewest_rounds(number, tail, ring), rounds_by_formula(number, tail, ring))

    def test_a_ring_of_one_doubles(self):
        for tail in (0, 1):
            for rounds in range(50):
                self.assert_same(fewest_rounds(2 ** rounds, tail, 1), rounds)
                if 2 ** rounds < MOST:
                    self.assert_same(fewest_rounds(2 ** rounds + 1, tail, 1), rounds + 1)
            self.assert_same(fewest_rounds(MOST, tail, 1), 50)

    def test_values_one_by_one(self):
        for number in list(range(1, 60)) + list(range(9990, 10002)):
            self.assert_same(fewest_rounds(number, 0, 10000), number - 1)
        self.assert_same(fewest_rounds(10001, 0, 10000), 10000)
        self.assert_same(fewest_rounds(10002, 0, 10000), 10001)
        self.assert_same(fewest_rounds(20002, 0, 10000), 10001)
        self.assert_same(fewest_rounds(20003, 0, 10000), 10002)

    def test_with_a_tail_the_last_values_one_by_one(self):
        for tail in range(2, 41):
            for ring in (1, 2, 3, 10000):
                for number in range(1, tail + 1):
                    self.assert_same(fewest_rounds(number, tail, ring), number - 1)
                for number in list(range(tail, tail + 12)) + [100, 1000, MOST]:
                    told = tail - 1 + fewest_rounds(number - tail + 1, 0, ring)
                    self.assert_same(fewest_rounds(number, tail, ring), told)

    def test_a_tail_of_one_is_like_none(self):
        for ring in (1, 2, 3, 9, 10000):
            for number in (1, 2, 3, 10, 100, 1000, 10 ** 10, MOST):
                self.assert_same(fewest_rounds(number, 1, ring), fewest_rounds(number, 0, ring))

    def test_one_value_needs_none(self):
        for tail, ring in LARGE_PAIRS:
            self.assert_same(fewest_rounds(1, tail, ring), 0)
            self.assert_same(fewest_rounds(2, tail, ring), 1)

    def test_wrong_numbers(self):
        for thing in [0, -1, -MOST, MOST + 1, MANY, -MANY] + support.no_numbers():
            self.assert_error(InvalidNumber, {"number": thing}, fewest_rounds, thing, 0, 2)
            self.assert_error(InvalidNumber, {"number": thing}, fewest_rounds, thing, None, 0)

    def test_wrong_tails_and_rings(self):
        for number in (1, 5, MOST):
            for thing in WRONG_TAILS:
                self.assert_error(InvalidTail, {"tail": thing}, fewest_rounds, number, thing, None)
            for thing in WRONG_RINGS:
                self.assert_error(InvalidRing, {"ring": thing}, fewest_rounds, number, 0, thing)


class MostValues(Promises):

    def test_by_the_formula(self):
        for ring in (1, 2, 3, 4, 5, 7, 10, 59, 60, 61, 10000):
            for tail in (0, 1):
                for rounds in range(61):
                    self.assert_same(most_values(rounds, tail, ring), most_by_formula(rounds, ring))

    def test_with_a_tail(self):
        for tail in range(2, 41):
            for ring in (1, 2, 3, 10000):
                for rounds in range(61):
                    if rounds < tail:
                        self.assert_same(most_values(rounds, tail, ring), rounds + 1)
                    else:
                        told = tail - 1 + most_by_formula(rounds - tail + 1, ring)
                        self.assert_same(most_values(rounds, tail, ring), told)

    def test_against_the_fewest_rounds(self):
        for tail, ring in LARGE_PAIRS:
            for rounds in range(61):
                most = most_values(rounds, tail, ring)
                if most <= MOST:
                    self.assertTrue(fewest_rounds(most, tail, ring) <= rounds)
                if most < MOST:
                    self.assertTrue(fewest_rounds(most + 1, tail, ring) > rounds)

    def test_fewest_rounds_against_it(self):
        source = random.Random(19)
        for tail, ring in LARGE_PAIRS:
            numbers = [source.randint(1, 10 ** source.randint(1, 15)) for _ in range(30)]
            for number in [1, 2, 3, 40, 41, 42, MOST - 1, MOST] + numbers:
                rounds = fewest_rounds(number, tail, ring)
                if rounds <= 60:
                    self.assertTrue(most_values(rounds, tail, ring) >= number)
                if 1 <= rounds <= 61:
                    self.assertTrue(most_values(rounds - 1, tail, ring) < number)

    def test_edges(self):
        for tail in (0, 1):
            self.assert_same(most_values(60, tail, 1), 2 ** 60)
            self.assert_same(most_values(60, tail, 10000), 61)
        self.assert_same(most_values(60, 2, 1), 2 ** 59 + 1)
        self.assert_same(most_values(60, 40, 1), 2 ** 21 + 39)
        self.assert_same(most_values(39, 40, 1), 40)
        self.assert_same(most_values(40, 40, 1), 41)
        self.assert_same(most_values(41, 40, 1), 43)
        for tail, ring in LARGE_PAIRS:
            self.assert_same(most_values(0, tail, ring), 1)
            self.assert_same(most_values(1, tail, ring), 2)

    def test_wrong_rounds(self):
        for thing in [-1, -60, 61, 62, MANY, -MANY] + support.no_numbers():
            self.assert_error(InvalidNumber, {"number": thing}, most_values, thing, 0, 2)
            self.assert_error(InvalidNumber, {"number": thing}, most_values, thing, None, 0)

    def test_wrong_tails_and_rings(self):
        for rounds in (0, 5, 60):
            for thing in WRONG_TAILS:
                self.assert_error(InvalidTail, {"tail": thing}, most_values, rounds, thing, None)
            for thing in WRONG_RINGS:
                self.assert_error(InvalidRing, {"ring": thing}, most_values, rounds, 0, thing)


class LeastHeight(Promises):

    def check(self, row, tail, ring, told):
        self.assert_same(least_height(row, tail, ring), told)
        tree = flat_tree(row, tail, ring)
        self.assertTrue(support.is_tree(tree))
        self.assertEqual([type(depth) for depth in tree], [int] * len(row))
        self.assert_same(support.marks_of_depths(tree, tail, ring), row)
        self.assert_same(height(tree), told)

    def test_all_small_rows_by_all_trees(self):
        for tail, ring, most in SMALL:
            for size in range(1, most + 1):
                heights = heights_by_marks(size, tail, ring)
                for row in support.all_rows(size, tail, ring):
                    if tuple(row) in heights:
                        self.check(row, tail, ring, heights[tuple(row)])
                    else:
                        self.assert_error(Stuck, {}, least_height, row, tail, ring)
                        self.assert_error(Stuck, {}, flat_tree, row, tail, ring)

    def test_rows_of_trees_of_eight_leaves(self):
        for tail, ring in PAIRS:
            for row, told in list(heights_by_marks(8, tail, ring).items())[::5]:
                self.check(list(row), tail, ring, told)

    def test_small_rows_by_rounds(self):
        for tail, ring, most in SMALL:
            following = support.next_marks(tail, ring)
            for size in range(1, min(most, 6) + 1):
                for row in support.all_rows(size, tail, ring):
                    told = rounds_by_trying(row, following)
                    if told is not None:
                        self.assert_same(least_height(row, tail, ring), told)

    def test_large_rows(self):
        for row, other, shape, tail, ring in large_rows():
            found = least_height(row, tail, ring)
            self.check(row, tail, ring, found)
            self.assertTrue((len(row) - 1).bit_length() <= found <= height_of(shape))
            if support.alike_by_stretches(other, tail, ring):
                self.check(other, tail, ring, least_height(other, tail, ring))
            else:
                self.assert_error(Stuck, {}, least_height, other, tail, ring)
                self.assert_error(Stuck, {}, flat_tree, other, tail, ring)

    def test_rows_with_one_tree(self):
        # With such a tail no other tree has these marks.
        for shape in support.large_shapes():
            tree = depths_of(shape)
            self.assert_same(flat_tree(tree, 40, 1), tree)
            self.assert_same(least_height(tree, 40, 1), height_of(shape))

    def test_a_ring_of_one_lets_every_tree(self):
        for number in range(1, 41):
            told = (number - 1).bit_length()
            self.check([0] * number, 0, 1, told)
            self.check([1] * (number - 1) + [0], 1, 1, told)

    def test_flat_folds_from_the_left_are_cut_as_the_document_tells(self):
        for tail, ring in PAIRS:
            for number in (1, 2, 5, 9, 16, 40):
                tree = flat_tree(fold_marks(number, tail, ring), tail, ring)
                self.assertEqual(marks_of(tree, tail, ring), fold_marks(number, tail, ring))
                singles = min(max(tail - 1, 0), number - 1)
                self.assertEqual(tree[len(tree) - singles:], list(range(singles - 1, -1, -1)))

    def test_cuttings_need_no_fewer_rounds(self):
        for tail, ring in PAIRS:
            for sizes in ([4, 3, 3, 1], [20, 19, 1], [10, 7, 7, 7, 7, 1], [5, 5, 5, 5], [13, 13, 13]):
                if is_safe(sizes, tail, ring):
                    self.assertTrue(height(cut_tree(sizes)) >= fewest_rounds(sum(sizes), tail, ring))

    def test_one_mark(self):
        for tail, ring in LARGE_PAIRS:
            self.check([0], tail, ring, 0)
            if tail + ring > 1:
                self.assert_error(Stuck, {}, least_height, [1], tail, ring)
                self.assert_error(Stuck, {}, flat_tree, [1], tail, ring)

    def test_rows_that_cannot_be_finished(self):
        for row, tail, ring in (
            ([0, 1, 0, 0], 0, 2), ([0, 0], 0, 2), ([2, 2], 0, 3), ([0] * 40, 0, 2), ([1] * 40, 1, 1),
            ([0, 1, 0], 3, 1), ([10039] * 39 + [0], 40, 10000),
        ):
            for call in (least_height, flat_tree):
                self.assert_error(Stuck, {}, call, row, tail, ring)

    def test_trees_are_new(self):
        row = [0, 1, 0, 1, 0]
        one, two = flat_tree(row, 0, 2), flat_tree(row, 0, 2)
        one.append(7)
        self.assert_same(flat_tree(row, 0, 2), two)
        self.assert_same(row, [0, 1, 0, 1, 0])
        # Where the marks are the left depths, too, the tree is another list all the same.
        self.assertIsNot(flat_tree(two, 40, 1), two)

    def test_wrong_arguments(self):
        for call in (least_height, flat_tree):
            for thing in WRONG_TAILS:
                self.assert_error(InvalidTail, {"tail": thing}, call, None, thing, None)
            for thing in WRONG_RINGS:
                self.assert_error(InvalidRing, {"ring": thing}, call, None, 0, thing)
            for thing in support.no_lists() + [[], [0] * 41]:
                self.assert_error(InvalidMarks, {"index": None}, call, thing, 0, 2)
            for wrong, index in support.with_one_wrong([1, 1, 0, 0], [-1, 2, MANY] + support.no_numbers()):
                self.assert_error(InvalidMarks, {"index": index}, call, wrong, 0, 2)


if __name__ == "__main__":
    unittest.main()
