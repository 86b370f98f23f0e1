"""cutfolds/joinings.py: [8], [10], [11], [12], [13]."""

import itertools
import random
import unittest

from cutfolds.errors import InvalidPlaces, NoJoining, Stuck
from cutfolds.joinings import (
    are_safe_at_once, can_finish, greatest_tree, joined, joinings, least_tree, safe_joinings,
)
from cutfolds.marks import fold_marks
from cutfolds.operations import fold_texts
from tests import support
from tests.support import Promises, depths_of, row_behind

MANY = 10 ** 25 - 1
# A tail, a ring, and up to how many marks all rows are gone through.
SMALL = [
    (0, 1, 8), (0, 2, 8), (0, 3, 6), (0, 4, 5), (1, 1, 8), (1, 2, 6), (1, 3, 5), (2, 1, 6), (2, 2, 5), (2, 3, 4),
    (3, 1, 5), (3, 2, 4), (4, 1, 5),
]
PAIRS = [
    (0, 1), (0, 2), (0, 3), (0, 5), (1, 1), (1, 2), (1, 4), (2, 1), (2, 2), (2, 3), (3, 2), (7, 4), (12, 1),
    (0, 39), (0, 40), (0, 10000), (1, 10000), (2, 10000), (40, 1), (40, 2), (40, 10000),
]
NO_PLACES = [0, -1, -4, 41, MANY, -MANY] + support.no_numbers()


def small_rows():
    """All small rows, each with its tail and ring, the marks next to marks, and known numbers of orders."""
    for tail, ring, most in SMALL:
        following = support.next_marks(tail, ring)
        known = {}
        for size in range(1, most + 1):
            for row in support.all_rows(size, tail, ring):
                yield row, tail, ring, following, known


def large_rows():
    """Rows of up to 40 marks that can be finished, each with its tree, and such with one other mark."""
    source = random.Random(11)
    for tail, ring in PAIRS:
        for shape in support.large_shapes():
            tree = depths_of(shape)
            row = support.marks_of_depths(tree, tail, ring)
            at = source.randrange(len(row))
            other = row[:at] + [source.randrange(min(tail + ring, 45))] + row[at + 1:]
            yield row, other, tree, tail, ring


class Examples(Promises):

    def test_of_the_interface(self):
        row = [0, 1, 0, 1, 0]
        self.assert_same(
            (can_finish(row, 0, 2), joinings(row, 0, 2), safe_joinings(row, 0, 2), joined(row, 0, 2, 4)),
            (True, [1, 2, 3, 4], [1, 2, 3], [0, 1, 0, 0]),
        )
        self.assert_same(
            (
                can_finish([0, 1, 0, 0], 0, 2), are_safe_at_once(row, 0, 2, [1, 3]), least_tree(row, 0, 2),
                greatest_tree(row, 0, 2),
            ),
            (False, True, [2, 1, 2, 1, 0], [4, 3, 2, 1, 0]),
        )

    def test_safe_one_by_one_and_not_all_at_once(self):
        row = [0, 2, 1, 2, 1, 0, 2, 1, 0]
        found = safe_joinings(row, 0, 3)
        self.assertIn(2, found)
        self.assertIn(5, found)
        self.assert_same(are_safe_at_once(row, 0, 3, [2]), True)
        self.assert_same(are_safe_at_once(row, 0, 3, [5]), True)
        self.assert_same(are_safe_at_once(row, 0, 3, [2, 5]), False)
        self.assert_same(can_finish([0, 1, 2, 0, 2, 1, 0], 0, 3), False)


class Finishing(Promises):

    def test_all_small_rows_by_all_orders(self):
        for row, tail, ring, following, known in small_rows():
            told = support.orders_by_trying(row, following, known) > 0
            self.assert_same(can_finish(row, tail, ring), told)

    def test_all_small_rows_by_all_trees(self):
        for tail, ring, most in SMALL:
            for size in range(1, most + 1):
                trees = support.trees_by_marks(size, tail, ring)
                for row in support.all_rows(size, tail, ring):
                    self.assert_same(can_finish(row, tail, ring), tuple(row) in trees)

    def test_large_rows(self):
        for row, other, _, tail, ring in large_rows():
            self.assert_same(can_finish(row, tail, ring), True)
            told = support.alike_by_stretches(other, tail, ring) > 0
            self.assert_same(can_finish(other, tail, ring), told)

    def test_one_mark(self):
        for tail, ring in PAIRS:
            self.assert_same(can_finish([0], tail, ring), True)
            for mark in {1, tail, tail + ring - 1} - {0}:
                if mark < tail + ring:
                    self.assert_same(can_finish([mark], tail, ring), False)

    def test_forty_marks(self):
        self.assert_same(can_finish([0] * 40, 0, 1), True)
        self.assert_same(can_finish([1] * 39 + [0], 1, 1), True)
        self.assert_same(can_finish([1] * 40, 1, 1), False)
        self.assert_same(can_finish([0] * 40, 1, 1), False)
        self.assert_same(can_finish([1] * 39 + [0], 0, 2), True)
        self.assert_same(can_finish([0] * 39 + [1], 0, 2), False)
        self.assert_same(can_finish([0] * 40, 0, 2), False)
        self.assert_same(can_finish([0] * 38 + [1, 0], 0, 2), True)
        self.assert_same(can_finish(list(range(39, -1, -1)), 40, 10000), True)
        self.assert_same(can_finish([10039] * 39 + [0], 40, 10000), False)
        self.assert_same(can_finish([40] * 40, 40, 1), False)
        self.assert_same(can_finish([40] * 39 + [0], 40, 1), False)

    def test_great_ring(self):
        self.assert_same(can_finish([9999, 0], 0, 10000), False)
        self.assert_same(can_finish([0, 9999, 0], 0, 10000), False)
        self.assert_same(can_finish([0, 0], 0, 10000), False)
        self.assert_same(can_finish([1, 2, 1, 0], 0, 10000), True)
        self.assert_same(can_finish([1, 2, 1, 10039, 0], 40, 10000), False)

    def test_a_mark_less_than_the_tail_has_one_left_depth(self):
        self.assert_same(can_finish([2, 1, 0], 3, 1), True)
        self.assert_same(can_finish([3, 1, 0], 3, 1), False)
        self.assert_same(can_finish([3, 2, 1, 0], 3, 1), True)
        self.assert_same(can_finish([0, 1, 0], 3, 1), False)
        self.assert_same(can_finish([2, 0], 3, 1), False)


class ByTheRule(Promises):

    def test_joinings_of_all_small_rows(self):
        for row, tail, ring, following, _ in small_rows():
            self.assert_same(joinings(row, tail, ring), support.places_by_rule(row, following))

    def test_joinings_of_large_rows(self):
        for row, other, _, tail, ring in large_rows():
            following = support.next_marks(tail, ring)
            self.assert_same(joinings(row, tail, ring), support.places_by_rule(row, following))
            self.assert_same(joinings(other, tail, ring), support.places_by_rule(other, following))

    def test_joinings_of_every_two_marks(self):
        for tail, ring in ((0, 1), (0, 2), (0, 7), (1, 1), (1, 5), (2, 1), (5, 3), (40, 1), (40, 2)):
            following = support.next_marks(tail, ring)
            for left, right in itertools.product(range(tail + ring), repeat=2):
                told = [1] if left == following[right] else []
                self.assert_same(joinings([left, right], tail, ring), told)
        for left, right, told in (
            (40, 10039, [1]), (39, 10039, []), (0, 10039, []), (10039, 10038, [1]), (40, 39, [1]), (0, 0, []),
        ):
            self.assert_same(joinings([left, right], 40, 10000), told)
        for left, right, told in ((0, 9999, [1]), (9999, 0, []), (9999, 9998, [1]), (1, 0, [1])):
            self.assert_same(joinings([left, right], 0, 10000), told)

    def test_joinings_do_not_ask_whether_the_row_can_be_finished(self):
        self.assert_same(joinings([0, 1, 0, 0], 0, 2), [1, 2])
        self.assert_same(joined([0, 1, 0, 0], 0, 2, 2), [0, 0, 0])
        self.assert_same(safe_joinings([0, 1, 0, 0], 0, 2), [])
        self.assert_same(joinings([2, 1], 0, 3), [1])
        self.assert_same(joined([2, 1], 0, 3, 1), [1])

    def test_joined_at_all_places_of_small_rows(self):
        for row, tail, ring, following, _ in small_rows():
            if len(row) <= 5:
                places = support.places_by_rule(row, following)
                for place in range(-2, len(row) + 3):
                    if place in places:
                        self.assert_same(joined(row, tail, ring, place), row_behind(row, place))
                    else:
                        self.assert_error(NoJoining, {"place": place}, joined, row, tail, ring, place)

    def test_joined_at_all_places_of_large_rows(self):
        for row, _, _, tail, ring in large_rows():
            following = support.next_marks(tail, ring)
            for place in support.places_by_rule(row, following):
                self.assert_same(joined(row, tail, ring, place), row_behind(row, place))

    def test_no_joining(self):
        for place in NO_PLACES + [5, 6, 40]:
            self.assert_error(NoJoining, {"place": place}, joined, [0, 1, 0, 1, 0], 0, 2, place)
        for place in NO_PLACES + [1]:
            self.assert_error(NoJoining, {"place": place}, joined, [0], 0, 1, place)
        for place in NO_PLACES + [40]:
            self.assert_error(NoJoining, {"place": place}, joined, [0] * 40, 0, 1, place)
        self.assert_error(NoJoining, {"place": 2}, joined, [0, 1, 1, 0], 0, 2, 2)


class Safe(Promises):

    def test_all_small_rows_by_all_orders(self):
        for row, tail, ring, following, known in small_rows():
            told = [
                place for place in support.places_by_rule(row, following)
                if support.orders_by_trying(row_behind(row, place), following, known)
            ]
            self.assert_same(safe_joinings(row, tail, ring), told)

    def test_large_rows(self):
        for row, other, _, tail, ring in list(large_rows())[::16]:
            for marks in (row, other):
                following = support.next_marks(tail, ring)
                told = [
                    place for place in support.places_by_rule(marks, following)
                    if support.alike_by_stretches(row_behind(marks, place), tail, ring)
                ]
                self.assert_same(safe_joinings(marks, tail, ring), told)

    def test_each_row_that_can_be_finished_has_one(self):
        source = random.Random(12)
        for row, _, _, tail, ring in list(large_rows())[::5]:
            while len(row) > 1:
                places = safe_joinings(row, tail, ring)
                self.assertNotEqual(places, [])
                row = joined(row, tail, ring, source.choice(places))
                self.assertTrue(can_finish(row, tail, ring))
            self.assertEqual(row, [0])

    def test_none_where_the_row_cannot_be_finished(self):
        for row, other, _, tail, ring in large_rows():
            if not support.alike_by_stretches(other, tail, ring):
                self.assert_same(safe_joinings(other, tail, ring), [])

    def test_folds_from_the_left(self):
        for tail, ring in PAIRS + [(5, 5), (3, 1), (39, 1), (38, 1), (0, 38), (1, 38), (1, 39), (20, 20)]:
            reach = ring + max(tail, 1)
            for number in range(2, 41):
                found = safe_joinings(fold_marks(number, tail, ring), tail, ring)
                self.assert_same(found, [1] + list(range(2, number + 2 - reach)))

    def test_one_mark_has_none(self):
        for tail, ring in PAIRS:
            self.assert_same((joinings([0], tail, ring), safe_joinings([0], tail, ring)), ([], []))


class AtOnce(Promises):

    def test_all_places_of_small_rows_by_all_orders(self):
        for row, tail, ring, following, known in small_rows():
            if len(row) <= 6:
                for places in support.sets_of_places(support.places_by_rule(row, following)):
                    behind = row_behind(row, *places)
                    told = support.orders_by_trying(behind, following, known) > 0
                    self.assert_same(are_safe_at_once(row, tail, ring, places), told)

    def test_some_places_of_large_rows(self):
        source = random.Random(13)
        for row, other, _, tail, ring in list(large_rows())[::4]:
            for marks in (row, other):
                possible = support.places_by_rule(marks, support.next_marks(tail, ring))
                for choose in (safe_joinings(row, tail, ring), possible, possible):
                    places = [place for place in possible if place in choose and source.random() < 0.6]
                    places = [place for at, place in enumerate(places) if at == 0 or place - places[at - 1] > 1]
                    behind = row_behind(marks, *places)
                    told = support.alike_by_stretches(behind, tail, ring) > 0
                    self.assert_same(are_safe_at_once(marks, tail, ring, places), told)

    def test_safe_ones_are_always_so_with_a_ring_of_one_or_two(self):
        for row, tail, ring, following, _ in small_rows():
            if ring <= 2 and len(row) > 1 and can_finish(row, tail, ring):
                for places in support.sets_of_places(safe_joinings(row, tail, ring)):
                    self.assert_same(are_safe_at_once(row, tail, ring, places), True)

    def test_no_places(self):
        self.assert_same(are_safe_at_once([0, 1, 0, 1, 0], 0, 2, []), True)
        self.assert_same(are_safe_at_once([0, 1, 0, 0], 0, 2, []), False)
        self.assert_same(are_safe_at_once([0], 0, 1, []), True)
        self.assert_same(are_safe_at_once([1], 0, 2, []), False)

    def test_places_of_a_row_that_cannot_be_finished(self):
        self.assert_same(are_safe_at_once([0, 1, 0, 0], 0, 2, [2]), False)
        self.assert_same(are_safe_at_once([1, 0, 1, 0, 1], 0, 2, [1, 3]), False)

    def test_forty_marks(self):
        odd = list(range(1, 40, 2))
        self.assert_same(are_safe_at_once([0] * 40, 0, 1, odd), True)
        self.assert_same(are_safe_at_once(fold_marks(40, 0, 2), 0, 2, odd[:-1]), True)
        self.assert_same(are_safe_at_once(fold_marks(40, 0, 2), 0, 2, odd), False)
        self.assert_same(are_safe_at_once(fold_marks(40, 40, 1), 40, 1, [1]), True)
        self.assert_same(are_safe_at_once(fold_marks(40, 40, 1), 40, 1, [39]), False)

    def assert_wrong(self, places, index, row=(0, 1, 0, 1, 0), tail=0, ring=2):
        told = {"index": index}
        self.assert_error(InvalidPlaces, told, are_safe_at_once, list(row), tail, ring, places)

    def test_wrong_kinds_of_lists(self):
        for thing in support.no_lists():
            self.assert_wrong(thing, None)
            self.assert_wrong(thing, None, [0], 0, 1)

    def test_wrong_places(self):
        things = [0, -1, -3, 5, 6, 41, MANY] + support.no_numbers()
        for right in ([1], [4], [1, 3], [2, 4], [1, 4]):
            for wrong, index in support.with_one_wrong(right, things):
                self.assert_wrong(wrong, index)
        things = [0, -1, -3, 9, 10, MANY] + support.no_numbers()
        for wrong, index in support.with_one_wrong([2, 4, 6, 8], things):
            self.assert_wrong(wrong, index, [0] * 9, 0, 1)

    def test_places_too_near_or_not_ascending(self):
        for wrong, index in (
            ([1, 2], 1), ([2, 1], 1), ([1, 1], 1), ([3, 1], 1), ([4, 2], 1), ([2, 4, 4], 2), ([1, 3, 4], 2),
            ([1, 3, 1], 2), ([3, 4, 0], 1), ([1, 2, 3, 4], 1), ([2, 3, "4"], 1), ([4, 4, None], 1),
        ):
            self.assert_wrong(wrong, index)
        self.assert_wrong([1, 3, 5, 6], 3, [0] * 8, 0, 1)
        self.assert_wrong(list(range(1, 40)), 1, [0] * 40, 0, 1)

    def test_places_at_which_the_rule_does_not_let_join(self):
        row = [0, 1, 1, 0, 1, 0]
        self.assert_same(joinings(row, 0, 2), [1, 3, 4, 5])
        for wrong, index in (([2], 0), ([2, 4], 0), ([1, 2], 1), ([2, None], 0), ([1, 6], 1), ([3, 5, 6], 2)):
            self.assert_wrong(wrong, index, row)
        self.assert_wrong([1], 0, [0, 0], 0, 2)
        self.assert_wrong([1], 0, [0])

    def test_very_many_places(self):
        self.assert_wrong([1, 3] + [1] * 10000, 2)
        self.assert_wrong(list(range(1, 10000, 2)), 20, [0] * 40, 0, 1)


class LeastAndGreatest(Promises):

    def test_all_small_rows_by_all_trees(self):
        for tail, ring, most in SMALL:
            for size in range(1, most + 1):
                trees = support.trees_by_marks(size, tail, ring)
                for row in support.all_rows(size, tail, ring):
                    if tuple(row) in trees:
                        columns = list(zip(*trees[tuple(row)]))
                        self.assert_same(least_tree(row, tail, ring), [min(column) for column in columns])
                        self.assert_same(greatest_tree(row, tail, ring), [max(column) for column in columns])
                    else:
                        self.assert_error(Stuck, {}, least_tree, row, tail, ring)
                        self.assert_error(Stuck, {}, greatest_tree, row, tail, ring)

    def test_large_rows(self):
        for row, other, tree, tail, ring in large_rows():
            least, greatest = least_tree(row, tail, ring), greatest_tree(row, tail, ring)
            for found in (least, greatest):
                self.assertTrue(support.is_tree(found))
                self.assertEqual(support.marks_of_depths(found, tail, ring), row)
            self.assertTrue(all(one <= two <= three for one, two, three in zip(least, tree, greatest)))
            self.assertEqual([up for _, up in support.steps_of(least, tail, ring) if not up], [])
            self.assertEqual([up for _, up in support.steps_of(greatest, tail, ring) if up], [])
            if not support.alike_by_stretches(other, tail, ring):
                self.assert_error(Stuck, {}, least_tree, other, tail, ring)
                self.assert_error(Stuck, {}, greatest_tree, other, tail, ring)

    def test_forty_leaves(self):
        comb, fold = [1] * 39 + [0], list(range(39, -1, -1))
        self.assert_same((least_tree([0] * 40, 0, 1), greatest_tree([0] * 40, 0, 1)), (comb, fold))
        self.assert_same((least_tree(comb, 1, 1), greatest_tree(comb, 1, 1)), (comb, fold))
        marks = fold_marks(40, 0, 2)
        self.assert_same((least_tree(marks, 0, 2), greatest_tree(marks, 0, 2)), ([1, 2] * 19 + [1, 0], fold))
        marks = fold_marks(40, 3, 1)
        self.assert_same((least_tree(marks, 3, 1), greatest_tree(marks, 3, 1)), ([3] * 37 + [2, 1, 0], fold))
        for tree in (comb, fold):
            self.assert_same((least_tree(tree, 40, 10000), greatest_tree(tree, 40, 10000)), (tree, tree))
            self.assert_same((least_tree(tree, 0, 10000), greatest_tree(tree, 0, 10000)), (tree, tree))

    def test_one_leaf(self):
        for tail, ring in PAIRS:
            self.assert_same((least_tree([0], tail, ring), greatest_tree([0], tail, ring)), ([0], [0]))
            for call in (least_tree, greatest_tree):
                if tail + ring > 1:
                    self.assert_error(Stuck, {}, call, [1], tail, ring)

    def test_a_row_that_is_stuck_is_looked_at_last(self):
        for call in (least_tree, greatest_tree):
            self.assert_error(Stuck, {}, call, [0, 1, 0, 0], 0, 2)
            self.assert_error(Stuck, {}, call, [0, 0], 0, 2)
            self.assert_error(Stuck, {}, call, [2, 2], 0, 3)


class Worker:
    """A row of texts that are joined by the rule, each with its mark and its stretch of values."""

    def __init__(self, texts, row, letters):
        self.parts = [(text, mark, (at, at)) for at, (text, mark) in enumerate(zip(texts, row))]
        self.letters = letters

    def marks(self):
        return [mark for _, mark, _ in self.parts]

    def join(self, place):
        (left, _, (first, _)), (right, mark, (_, last)) = self.parts[place - 1:place + 1]
        turned = "".join(self.letters[letter] for letter in left)
        self.parts[place - 1:place + 1] = [(turned + right, mark, (first, last))]


class Results(Promises):
    """[10] and [12], with texts that show how often each value was turned."""

    def test_all_orders_lead_to_the_result_of_all_trees_with_the_marks(self):
        source = random.Random(10)
        for tail, ring in ((0, 1), (0, 2), (0, 3), (1, 1), (1, 2), (2, 1), (2, 2), (3, 3), (6, 4)):
            letters = support.chain_of_letters(tail, ring)
            for shape in support.shapes(5)[::3] + support.large_shapes()[::2]:
                tree = depths_of(shape)
                row = support.marks_of_depths(tree, tail, ring)
                worker = Worker(["a"] * len(row), row, letters)
                while len(worker.parts) > 1:
                    places = safe_joinings(worker.marks(), tail, ring)
                    worker.join(source.choice(places))
                self.assertEqual(worker.parts[0][0], fold_texts(tree, letters, ["a"] * len(row)))

    def test_stretches_have_one_result_with_a_tail_of_at_most_one(self):
        for tail, ring in ((0, 1), (0, 2), (0, 3), (1, 1), (1, 2), (1, 3)):
            for row, found in self.stretches_of_rows(tail, ring):
                self.assertTrue(all(len(texts) == 1 for texts in found.values()))

    def test_stretches_may_have_several_with_a_greater_tail(self):
        for tail, ring in ((2, 1), (2, 2), (3, 1)):
            many = [
                span for row, found in self.stretches_of_rows(tail, ring)
                for span, texts in found.items() if len(texts) > 1
            ]
            self.assertNotEqual(many, [])

    def stretches_of_rows(self, tail, ring):
        """For some rows the results of each stretch that can be joined by the rule."""
        source = random.Random(tail * 10 + ring)
        letters = support.chain_of_letters(tail, ring)
        for shape in support.shapes(6):
            row = support.marks_of_depths(depths_of(shape), tail, ring)
            found = {}
            for _ in range(10):
                worker = Worker(["a"] * len(row), row, letters)
                while places := joinings(worker.marks(), tail, ring):
                    worker.join(source.choice(places))
                    for text, _, span in worker.parts:
                        found.setdefault(span, set()).add(text)
            yield row, found


if __name__ == "__main__":
    unittest.main()
