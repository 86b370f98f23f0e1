"""cutfolds/signs.py: [20], with [6]."""

import functools
import itertools
import random
import unittest

from cutfolds.errors import InvalidNumber, InvalidSigns, InvalidTree, NoJoining, Stuck, UnequalLeaves
from cutfolds.signs import (
    agree_in_signs, can_finish_signs, count_sign_rows, joined_signs, safe_sign_joinings, sign_joinings, signs_of,
    tree_with_signs,
)
from tests import support
from tests.support import LEAF, Promises, depths_of, fold_of, left_comb, right_comb

MANY = 10 ** 25 - 1
NO_SIGNS = [0, 2, -2, 3, 40, MANY, -MANY] + support.no_numbers() + [-1.0, "-1", [-1], (-1,)]
NO_PLACES = [0, -1, -3, 40, 41, MANY, -MANY] + support.no_numbers()


def levels_of(shape, level=0):
    """In how many left and right parts each leaf lies."""
    if shape == LEAF:
        return [level]
    return levels_of(shape[0], level + 1) + levels_of(shape[1], level + 1)


def signs_by_levels(shape):
    return [1 if level % 2 == 0 else -1 for level in levels_of(shape)]


def sign_rows(size):
    return [list(row) for row in itertools.product((1, -1), repeat=size)]


def row_of_signs_behind(row, place):
    return row[:place - 1] + [-row[place - 1]] + row[place + 1:]


def places_of_equal_signs(row):
    return [place for place in range(1, len(row)) if row[place - 1] == row[place]]


@functools.cache
def ends_well(row):
    """Whether joinings in some order lead to the one sign 1."""
    if len(row) == 1:
        return row == (1,)
    return any(ends_well(tuple(row_of_signs_behind(list(row), place))) for place in places_of_equal_signs(row))


def as_told(row):
    """The words of [20]: the sum leaves 1 modulo 3, and some two neighbours are the same."""
    return (sum(row) - 1) % 3 == 0 and (len(row) == 1 or any(one == two for one, two in itertools.pairwise(row)))


def large_rows():
    """Rows of many signs, those of trees and others."""
    source = random.Random(20)
    found = [signs_by_levels(shape) for shape in support.large_shapes()]
    for size in (10, 11, 12, 25, 38, 39, 40, 40, 40):
        found += [[source.choice((1, -1)) for _ in range(size)] for _ in range(5)]
        alternating = [1 if at % 2 == 0 else -1 for at in range(size)]
        found += [[1] * size, [-1] * size, alternating, [-sign for sign in alternating]]
        at = source.randrange(size)
        found += [alternating[:at] + [-alternating[at]] + alternating[at + 1:]]
    return found


class Examples(Promises):

    def test_of_the_interface(self):
        self.assert_same(
            (signs_of([2, 1, 0]), can_finish_signs([1, -1, 1]), count_sign_rows(5)), ([1, 1, -1], False, 10)
        )
        row = [1, 1, 1, 1]
        self.assert_same(
            (sign_joinings(row), safe_sign_joinings(row), joined_signs(row, 2)), ([1, 2, 3], [1, 3], [1, -1, 1])
        )


class SignsOf(Promises):

    def test_all_small_and_some_large_trees(self):
        for shape in [shape for leaves in range(1, 9) for shape in support.shapes(leaves)] + support.large_shapes():
            self.assert_same(signs_of(depths_of(shape)), signs_by_levels(shape))

    def test_forty_leaves(self):
        self.assert_same(signs_of([1] * 39 + [0]), [-1, 1] * 19 + [-1, -1])
        self.assert_same(signs_of(list(range(39, -1, -1))), [-1] + [-1, 1] * 19 + [-1])
        self.assert_same(signs_of([0]), [1])

    def test_wrong_trees(self):
        for thing, index in support.wrong_trees():
            self.assert_error(InvalidTree, {"index": index}, signs_of, thing)


class Agree(Promises):

    def test_all_small_trees(self):
        for leaves in range(1, 7):
            shapes = support.shapes(leaves)
            for one, two in itertools.product(shapes, repeat=2):
                told = signs_by_levels(one) == signs_by_levels(two)
                self.assert_same(agree_in_signs(depths_of(one), depths_of(two)), told)

    def test_results_are_the_same_just_then(self):
        # Minus the first minus the second; the powers of 3 tell which signs the values have.
        for leaves in range(1, 7):
            values = [3 ** at for at in range(leaves)]
            for one, two in itertools.product(support.shapes(leaves), repeat=2):
                first, second = (
                    fold_of(shape, lambda value: -value, lambda left, right: left - right, values)
                    for shape in (one, two)
                )
                self.assert_same(agree_in_signs(depths_of(one), depths_of(two)), first == second)

    def test_large_trees(self):
        shapes = [shape for shape in support.large_shapes() if support.leaves_of(shape) == 40]
        for one, two in itertools.product(shapes, repeat=2):
            told = signs_by_levels(one) == signs_by_levels(two)
            self.assert_same(agree_in_signs(depths_of(one), depths_of(two)), told)

    def test_different_trees_that_agree(self):
        pairs = [
            (first, second) for first, second in itertools.combinations(support.shapes(5), 2)
            if signs_by_levels(first) == signs_by_levels(second)
        ]
        # There are 14 trees and 10 rows of signs.
        self.assertTrue(len(pairs) >= 4)
        for first, second in pairs:
            self.assert_same(agree_in_signs(depths_of(first), depths_of(second)), True)

    def test_wrong_trees(self):
        for thing, index in support.wrong_trees():
            self.assert_error(InvalidTree, {"index": index}, agree_in_signs, thing, [1, 0])
            self.assert_error(InvalidTree, {"index": index}, agree_in_signs, [1, 0], thing)
            self.assert_error(InvalidTree, {"index": index}, agree_in_signs, thing, None)

    def test_unequal_leaves(self):
        trees = [depths_of(comb(leaves)) for comb in (left_comb, right_comb) for leaves in (1, 2, 3, 39, 40)]
        for one, two in itertools.product(trees, repeat=2):
            if len(one) != len(two):
                told = {"first": len(one), "second": len(two)}
                self.assert_error(UnequalLeaves, told, agree_in_signs, one, two)


class Counts(Promises):

    def test_by_all_rows(self):
        for number in range(1, 10):
            self.assert_same(count_sign_rows(number), sum(ends_well(tuple(row)) for row in sign_rows(number)))
        for number in range(1, 14):
            self.assert_same(count_sign_rows(number), sum(can_finish_signs(row) for row in sign_rows(number)))

    def test_by_all_trees(self):
        for number in range(1, 9):
            rows = {tuple(signs_by_levels(shape)) for shape in support.shapes(number)}
            self.assert_same(count_sign_rows(number), len(rows))

    def test_up_to_forty(self):
        self.assert_same([count_sign_rows(number) for number in range(1, 8)], [1, 1, 2, 5, 10, 21, 42])
        for number in range(2, 41):
            self.assert_same(count_sign_rows(number), 2 ** number // 3)

    def test_wrong_numbers(self):
        for thing in [0, -1, 41, 42, MANY, -MANY] + support.no_numbers():
            self.assert_error(InvalidNumber, {"number": thing}, count_sign_rows, thing)


class Finishing(Promises):

    def test_all_rows_of_up_to_seven_by_all_orders(self):
        for size in range(1, 8):
            for row in sign_rows(size):
                self.assert_same(can_finish_signs(row), ends_well(tuple(row)))

    def test_all_rows_of_up_to_eight_by_all_trees(self):
        for size in range(1, 9):
            rows = [signs_by_levels(shape) for shape in support.shapes(size)]
            for row in sign_rows(size):
                self.assert_same(can_finish_signs(row), row in rows)

    def test_rows_by_the_words_of_the_document(self):
        for row in large_rows() + [row for size in range(1, 12) for row in sign_rows(size)]:
            self.assert_same(can_finish_signs(row), as_told(row))

    def test_rows_of_trees(self):
        for shape in support.large_shapes():
            self.assert_same(can_finish_signs(signs_by_levels(shape)), True)

    def test_one_sign(self):
        self.assert_same((can_finish_signs([1]), can_finish_signs([-1])), (True, False))

    def test_alternating_signs(self):
        for size in range(2, 41):
            row = [1 if at % 2 == 0 else -1 for at in range(size)]
            self.assert_same(can_finish_signs(row), False)
            self.assert_same(can_finish_signs([-sign for sign in row]), False)

    def test_signs_that_are_all_the_same(self):
        for size in range(2, 41):
            self.assert_same(can_finish_signs([1] * size), size % 3 == 1)
            self.assert_same(can_finish_signs([-1] * size), size % 3 == 2)


class Joinings(Promises):

    def test_all_small_rows(self):
        for size in range(1, 8):
            for row in sign_rows(size):
                places = places_of_equal_signs(row)
                self.assert_same(sign_joinings(row), places)
                told = [place for place in places if ends_well(tuple(row_of_signs_behind(row, place)))]
                self.assert_same(safe_sign_joinings(row), told)

    def test_large_rows(self):
        for row in large_rows():
            places = places_of_equal_signs(row)
            self.assert_same(sign_joinings(row), places)
            told = [place for place in places if as_told(row_of_signs_behind(row, place))]
            self.assert_same(safe_sign_joinings(row), told)

    def test_each_row_that_can_be_finished_has_a_safe_one(self):
        source = random.Random(21)
        for row in large_rows():
            if as_told(row):
                while len(row) > 1:
                    row = joined_signs(row, source.choice(safe_sign_joinings(row)))
                self.assertEqual(row, [1])
            else:
                self.assert_same(safe_sign_joinings(row), [])

    def test_none_for_one_sign(self):
        for row in ([1], [-1]):
            self.assert_same((sign_joinings(row), safe_sign_joinings(row)), ([], []))

    def test_joinings_do_not_ask_whether_the_row_can_be_finished(self):
        self.assert_same(sign_joinings([1, 1]), [1])
        self.assert_same(joined_signs([1, 1], 1), [-1])
        self.assert_same(safe_sign_joinings([1, 1]), [])

    def test_joined_at_all_places(self):
        for row in large_rows() + [row for size in range(1, 6) for row in sign_rows(size)]:
            places = places_of_equal_signs(row)
            before = list(row)
            for place in range(-2, len(row) + 3):
                if place in places:
                    self.assert_same(joined_signs(row, place), row_of_signs_behind(row, place))
                else:
                    self.assert_error(NoJoining, {"place": place}, joined_signs, row, place)
            self.assert_same(row, before)

    def test_no_joining(self):
        for row in ([1], [1, 1], [-1, -1, 1], [1] * 40):
            for place in NO_PLACES + [len(row)]:
                self.assert_error(NoJoining, {"place": place}, joined_signs, row, place)
        for place in (1, 3):
            self.assert_error(NoJoining, {"place": place}, joined_signs, [1, -1, -1, 1], place)


class TreeWithSigns(Promises):

    def check(self, row):
        before = list(row)
        tree = tree_with_signs(row)
        self.assert_same(row, before)
        self.assertTrue(support.is_tree(tree))
        self.assertEqual([type(depth) for depth in tree], [int] * len(row))
        self.assert_same(signs_of(tree), row)

    def test_each_small_row(self):
        for size in range(1, 11):
            for row in sign_rows(size):
                if as_told(row):
                    self.check(row)
                else:
                    self.assert_error(Stuck, {}, tree_with_signs, row)

    def test_by_all_trees(self):
        trees = {tuple(depths_of(shape)): signs_by_levels(shape) for shape in support.shapes(7)}
        for row in trees.values():
            self.assertEqual(trees[tuple(tree_with_signs(row))], row)

    def test_large_rows(self):
        for row in large_rows():
            if as_told(row):
                self.check(row)
            else:
                self.assert_error(Stuck, {}, tree_with_signs, row)

    def test_rows_of_forty(self):
        for row in ([1] * 40, [1, -1] * 18 + [1, 1, 1, 1], [1, -1] * 19 + [-1, -1], [-1] * 38):
            self.check(row)
        for row in ([-1] * 40, [1, -1] * 20, [-1, 1] * 20, [1] * 39):
            self.assert_error(Stuck, {}, tree_with_signs, row)

    def test_one_sign(self):
        self.assert_same(tree_with_signs([1]), [0])
        self.assert_error(Stuck, {}, tree_with_signs, [-1])


class WrongSigns(Promises):

    def calls(self):
        one = [can_finish_signs, sign_joinings, safe_sign_joinings, tree_with_signs]
        return one + [lambda signs: joined_signs(signs, 1), lambda signs: joined_signs(signs, None)]

    def test_wrong_kinds_and_lengths(self):
        things = support.no_lists() + [(1,), (1, 1, 1, 1), {1}, {1: 1}, "1", "+", "--", range(1, 2)]
        for thing in things + [[], [1] * 41, [-1] * 41, [None] * 41, [1] * 5000]:
            for call in self.calls():
                self.assert_error(InvalidSigns, {"index": None}, call, thing)

    def test_one_wrong_thing_and_a_second_behind_it(self):
        for right in ([1], [-1], [1, 1, 1, 1], [-1, 1, -1], [1] * 40):
            for wrong, index in support.with_one_wrong(right, NO_SIGNS):
                for call in self.calls():
                    self.assert_error(InvalidSigns, {"index": index}, call, wrong)

    def test_as_many_as_may_be(self):
        for row in ([1] * 40, [-1] * 40, [1, -1] * 20):
            self.assertEqual(len(sign_joinings(row)), 39 if row[0] == row[1] else 0)


if __name__ == "__main__":
    unittest.main()
