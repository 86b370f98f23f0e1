"""cutfolds/pieces.py: [16], [17]."""

import itertools
import random
import unittest

from cutfolds.errors import InvalidNumber, InvalidRing, InvalidSizes, InvalidTail
from cutfolds.marks import are_alike
from cutfolds.operations import fold_texts
from cutfolds.pieces import count_cuttings, cut_tree, even_cutting, is_safe
from cutfolds.trees import left_fold
from tests import support
from tests.support import LEAF, Promises, depths_of, left_comb

MANY = 10 ** 25 - 1
PAIRS = [
    (0, 1), (0, 2), (0, 3), (0, 4), (1, 1), (1, 2), (1, 3), (2, 1), (2, 2), (2, 3), (3, 1), (3, 2), (4, 1), (4, 3),
    (5, 2), (7, 1), (8, 1), (9, 2), (40, 1), (0, 8), (0, 9), (0, 10000), (3, 10000), (40, 10000),
]
WRONG_TAILS = [-1, 41, MANY, -MANY] + support.no_numbers()
WRONG_RINGS = [0, -1, 10001, MANY, -MANY] + support.no_numbers()


def cuttings(number, pieces):
    """All lists of so many sizes that come to a number."""
    found = []
    for ends in itertools.combinations(range(1, number), pieces - 1):
        marks = [0, *ends, number]
        found.append([two - one for one, two in itertools.pairwise(marks)])
    return found


def all_cuttings(most):
    return [
        sizes for number in range(1, most + 1) for pieces in range(1, number + 1)
        for sizes in cuttings(number, pieces)
    ]


def large_cuttings():
    """Cuttings of up to 40 values, many of them safe by some pair of a tail and a ring."""
    source = random.Random(17)
    found = [[40], [1] * 40, [1] * 39, [39, 1], [1, 39], [20, 20], [13, 13, 13, 1], [2] * 20, [3] * 13, [1, 2] * 13]
    for tail, ring in PAIRS:
        for _ in range(8):
            behind = [1 + ring * source.randint(0, 2) for _ in range(source.randint(0, 8))]
            sizes = [source.randint(1, 9)] + behind + [1] * source.randint(0, max(tail, 1))
            if sum(sizes) <= 40:
                found.append(sizes)
            found.append([source.randint(1, 5) for _ in range(source.randint(1, 8))])
    return found


def shape_of(sizes):
    """The pieces folded from the left, and then their results, as nested pairs."""
    whole = left_comb(sizes[0])
    for size in sizes[1:]:
        whole = (whole, left_comb(size))
    return whole


def is_as_told(sizes, tail, ring):
    """The second sentence of [17]."""
    behind = sizes[1:]
    many = min(max(tail - 1, 0), len(behind))
    others, last = behind[:len(behind) - many], behind[len(behind) - many:]
    return all(size == 1 for size in last) and all((size - 1) % ring == 0 for size in others)


def agrees(sizes, tail, ring):
    """Whether the marks of the cutting are those of the fold from the left."""
    number = sum(sizes)
    cut = support.marks_of_depths(depths_of(shape_of(sizes)), tail, ring)
    return cut == support.marks_of_depths(list(range(number - 1, -1, -1)), tail, ring)


class Examples(Promises):

    def test_of_the_interface(self):
        self.assert_same(
            (
                cut_tree([2, 3, 1]), is_safe([2, 3, 1], 0, 2), is_safe([3, 2, 1], 0, 2), is_safe([2, 3, 1], 3, 1),
                is_safe([2, 2], 0, 1),
            ),
            ([3, 2, 3, 2, 1, 0], True, False, False, True),
        )
        self.assert_same((max(even_cutting(10, 3, 0, 2)), count_cuttings(10, 3, 0, 2)), (4, 10))


class CutTree(Promises):

    def test_all_small_cuttings(self):
        for sizes in all_cuttings(9):
            self.assert_same(cut_tree(sizes), depths_of(shape_of(sizes)))

    def test_large_cuttings(self):
        for sizes in large_cuttings():
            self.assert_same(cut_tree(sizes), depths_of(shape_of(sizes)))

    def test_one_piece_and_single_values_are_the_fold_from_the_left(self):
        for number in range(1, 41):
            self.assert_same(cut_tree([number]), left_fold(number))
            self.assert_same(cut_tree([1] * number), left_fold(number))
            if number > 1:
                self.assert_same(cut_tree([number - 1, 1]), left_fold(number))

    def test_two_pieces(self):
        self.assert_same(cut_tree([2, 2]), [2, 1, 1, 0])
        self.assert_same(cut_tree([1, 3]), [1, 2, 1, 0])
        self.assert_same(depths_of(((LEAF, LEAF), (LEAF, LEAF))), [2, 1, 1, 0])


class Safe(Promises):

    def test_all_small_cuttings(self):
        for tail, ring in PAIRS:
            for sizes in all_cuttings(7):
                told = agrees(sizes, tail, ring)
                self.assertEqual(told, is_as_told(sizes, tail, ring))
                self.assert_same(is_safe(sizes, tail, ring), told)

    def test_large_cuttings(self):
        for tail, ring in PAIRS:
            for sizes in large_cuttings():
                self.assert_same(is_safe(sizes, tail, ring), is_as_told(sizes, tail, ring))
                self.assert_same(is_safe(sizes, tail, ring), agrees(sizes, tail, ring))

    def test_the_tree_agrees_with_the_fold_from_the_left(self):
        for tail, ring in PAIRS[:16]:
            for sizes in all_cuttings(6) + large_cuttings()[::9]:
                tree = cut_tree(sizes)
                self.assert_same(is_safe(sizes, tail, ring), are_alike(tree, left_fold(len(tree)), tail, ring))

    def test_results_are_those_of_the_fold_from_the_left(self):
        for tail, ring in PAIRS[:16]:
            letters = support.chain_of_letters(tail, ring)
            for sizes in all_cuttings(6):
                values = ["a"] * sum(sizes)
                told = fold_texts(left_fold(len(values)), letters, values)
                self.assertIs(is_safe(sizes, tail, ring), fold_texts(cut_tree(sizes), letters, values) == told)

    def test_one_piece_is_always_safe(self):
        for tail, ring in PAIRS:
            for number in (1, 2, 3, 7, 39, 40):
                self.assert_same(is_safe([number], tail, ring), True)
                self.assert_same(is_safe([1] * number, tail, ring), True)

    def test_the_first_piece_may_have_any_size(self):
        for size in range(1, 38):
            self.assert_same(is_safe([size, 3], 0, 2), True)
            self.assert_same(is_safe([size, 2], 0, 2), False)
            self.assert_same(is_safe([size, 1, 1], 3, 2), True)

    def test_how_many_single_values_a_tail_asks_for(self):
        for tail, told in ((0, True), (1, True), (2, True), (3, True), (4, False), (5, False), (40, False)):
            self.assert_same(is_safe([4, 5, 3, 1, 1], tail, 2), told)
        for tail, told in ((0, True), (1, True), (2, False), (3, False), (40, False)):
            self.assert_same(is_safe([2, 3], tail, 2), told)
        for tail in (0, 1, 2, 4, 5, 6, 40):
            self.assert_same(is_safe([36, 1, 1, 1, 1], tail, 3), True)


class EvenCutting(Promises):

    def check(self, number, pieces, tail, ring):
        found = even_cutting(number, pieces, tail, ring)
        self.assertIs(type(found), list)
        self.assertTrue(all(type(size) is int and size >= 1 for size in found))
        self.assertEqual((len(found), sum(found)), (pieces, number))
        self.assertTrue(is_as_told(found, tail, ring))
        self.assertTrue(is_safe(found, tail, ring))
        return found

    def test_small_numbers_by_all_cuttings(self):
        for number in range(1, 11):
            for pieces in range(1, number + 1):
                every = cuttings(number, pieces)
                for tail, ring in PAIRS:
                    found = self.check(number, pieces, tail, ring)
                    self.assertEqual(max(found), min(max(sizes) for sizes in every if is_as_told(sizes, tail, ring)))

    def test_large_numbers_by_what_lesser_sizes_can_come_to(self):
        for number in (23, 39, 40):
            for pieces in range(1, number + 1):
                for tail, ring in PAIRS:
                    found = self.check(number, pieces, tail, ring)
                    self.assertNotIn(number, sums_of_sizes(pieces, max(found) - 1, tail, ring))

    def test_one_piece_and_single_values(self):
        for tail, ring in PAIRS:
            for number in (1, 2, 9, 40):
                self.assert_same(even_cutting(number, 1, tail, ring), [number])
                self.assert_same(even_cutting(number, number, tail, ring), [1] * number)

    def test_a_tail_greater_than_the_number_of_pieces(self):
        self.assert_same(even_cutting(10, 3, 40, 1), [8, 1, 1])
        self.assert_same(even_cutting(10, 3, 3, 1), [8, 1, 1])
        self.assert_same(even_cutting(40, 5, 40, 10000), [36, 1, 1, 1, 1])
        self.assert_same(even_cutting(10, 3, 2, 1)[-1], 1)
        self.assert_same(sorted(even_cutting(9, 3, 2, 1)), [1, 4, 4])

    def test_a_ring_too_great_for_a_second_value(self):
        self.assert_same(even_cutting(10, 3, 0, 8), [8, 1, 1])
        self.assert_same(even_cutting(40, 4, 1, 10000), [37, 1, 1, 1])
        self.assert_same(max(even_cutting(10, 3, 0, 7)), 8)

    def test_as_even_as_can_be(self):
        for number, pieces, tail, ring, told in (
            (40, 4, 0, 1, 10), (40, 3, 0, 1, 14), (40, 2, 0, 2, 21), (39, 3, 0, 2, 13), (40, 3, 0, 2, 14),
            (12, 3, 1, 3, 4), (11, 3, 0, 3, 4), (13, 3, 0, 3, 5), (40, 4, 3, 1, 19), (10, 2, 0, 4, 5),
            (9, 2, 0, 4, 5), (9, 2, 0, 5, 6),
        ):
            self.assert_same(max(self.check(number, pieces, tail, ring)), told)


def sums_of_sizes(pieces, most, tail, ring):
    """What sizes up to `most` of so many pieces can come to, by [17]."""
    found = set(range(1, most + 1))
    for at in range(1, pieces):
        single = pieces - at <= tail - 1
        sizes = [size for size in range(1, most + 1) if size == 1 or not single and (size - 1) % ring == 0]
        found = {one + size for one in found for size in sizes if one + size <= 40}
    return found


class CountCuttings(Promises):

    def test_small_numbers_by_all_cuttings(self):
        for number in range(1, 11):
            for pieces in range(1, number + 1):
                every = cuttings(number, pieces)
                for tail, ring in PAIRS:
                    told = sum(is_as_told(sizes, tail, ring) for sizes in every)
                    self.assert_same(count_cuttings(number, pieces, tail, ring), told)

    def test_small_numbers_by_trees_that_agree(self):
        for tail, ring in PAIRS[:13]:
            for number in range(1, 8):
                for pieces in range(1, number + 1):
                    told = sum(agrees(sizes, tail, ring) for sizes in cuttings(number, pieces))
                    self.assert_same(count_cuttings(number, pieces, tail, ring), told)

    def test_large_numbers_piece_by_piece(self):
        for tail, ring in PAIRS:
            for pieces in range(1, 41):
                counts = counts_of_sums(pieces, tail, ring)
                for number in range(pieces, 41):
                    self.assert_same(count_cuttings(number, pieces, tail, ring), counts[number])

    def test_ends(self):
        for tail, ring in PAIRS:
            for number in (1, 2, 9, 40):
                self.assert_same(count_cuttings(number, 1, tail, ring), 1)
                self.assert_same(count_cuttings(number, number, tail, ring), 1)
        self.assert_same(count_cuttings(40, 20, 0, 1), 68923264410)
        self.assert_same(count_cuttings(40, 2, 1, 1), 39)
        self.assert_same(count_cuttings(40, 2, 2, 1), 1)
        self.assert_same(count_cuttings(40, 20, 40, 1), 1)
        self.assert_same(count_cuttings(40, 20, 0, 10000), 1)
        self.assert_same((count_cuttings(40, 20, 0, 20), count_cuttings(40, 20, 0, 21)), (20, 1))


def counts_of_sums(pieces, tail, ring):
    """In how many ways the sizes of so many pieces come to 0, 1 and so on, by [17]."""
    counts = [0] + [1] * 40
    for at in range(1, pieces):
        sizes = [1] if pieces - at <= tail - 1 else range(1, 41, ring)
        counts = [sum(counts[total - size] for size in sizes if size <= total) for total in range(41)]
    return counts


class WrongSizes(Promises):

    def assert_wrong(self, sizes, index):
        told = {"index": index}
        self.assert_error(InvalidSizes, told, cut_tree, sizes)
        self.assert_error(InvalidSizes, told, is_safe, sizes, 0, 2)
        self.assert_error(InvalidSizes, told, is_safe, sizes, None, None)

    def test_wrong_kinds_of_lists(self):
        for thing in support.no_lists() + [[]]:
            self.assert_wrong(thing, None)

    def test_one_wrong_thing_at_each_place(self):
        things = [0, -1, -40, -MANY] + support.no_numbers()
        for right in ([1], [40], [2, 3, 1], [1] * 40, [10, 10, 10, 10]):
            for wrong, index in support.with_one_wrong(right, things):
                self.assert_wrong(wrong, index)

    def test_sizes_that_come_to_too_many(self):
        for wrong, index in (
            ([41], 0), ([MANY], 0), ([40, 1], 1), ([1, 40], 1), ([20, 20, 1], 2), ([20, 21, 0], 1), ([41, None], 0),
            ([1] * 41, 40), ([1] * 1000, 40), ([2] * 21, 20), ([39, 1, 1, "1"], 2), ([39, 2, True], 1),
            ([1, MANY, 0], 1),
        ):
            self.assert_wrong(wrong, index)

    def test_the_first_of_several_wrong_things(self):
        for wrong, index in (
            ([0, 41], 0), ([1, True, 41], 1), ([30, 11, None], 1), ([30, None, 11], 1), ([10, -10, 40, 1], 1),
            ([40, 0, 1], 1),
        ):
            self.assert_wrong(wrong, index)

    def test_just_forty(self):
        for sizes in ([40], [1] * 40, [39, 1], [20, 20], [1, 39]):
            self.assertEqual(len(cut_tree(sizes)), 40)

    def test_wrong_tails_and_rings(self):
        for tail in WRONG_TAILS:
            self.assert_error(InvalidTail, {"tail": tail}, is_safe, [2, 3, 1], tail, 2)
            self.assert_error(InvalidTail, {"tail": tail}, is_safe, [1], tail, 0)
        for ring in WRONG_RINGS:
            self.assert_error(InvalidRing, {"ring": ring}, is_safe, [2, 3, 1], 0, ring)
            self.assert_error(InvalidRing, {"ring": ring}, is_safe, [1], 40, ring)


class WrongNumbers(Promises):

    def assert_both(self, kind, told, *args):
        for call in (even_cutting, count_cuttings):
            self.assert_error(kind, told, call, *args)

    def test_wrong_numbers(self):
        for number in [0, -1, 41, 42, MANY, -MANY] + support.no_numbers():
            self.assert_both(InvalidNumber, {"number": number}, number, 1, 0, 2)
            self.assert_both(InvalidNumber, {"number": number}, number, None, None, None)
            self.assert_both(InvalidNumber, {"number": number}, number, 50, 0, 2)

    def test_wrong_numbers_of_pieces(self):
        for number in (1, 2, 10, 40):
            for pieces in [0, -1, number + 1, number + 2, 41, MANY, -MANY] + support.no_numbers():
                self.assert_both(InvalidNumber, {"number": pieces}, number, pieces, 0, 2)
                self.assert_both(InvalidNumber, {"number": pieces}, number, pieces, -1, 0)

    def test_wrong_tails_and_rings(self):
        for tail in WRONG_TAILS:
            self.assert_both(InvalidTail, {"tail": tail}, 10, 3, tail, 2)
            self.assert_both(InvalidTail, {"tail": tail}, 1, 1, tail, 0)
        for ring in WRONG_RINGS:
            self.assert_both(InvalidRing, {"ring": ring}, 10, 3, 0, ring)
            self.assert_both(InvalidRing, {"ring": ring}, 1, 1, 40, ring)


if __name__ == "__main__":
    unittest.main()
