"""[4]: what the files promise together, each by all rows or trees that are small enough to go through."""

import itertools
import unittest

from cutfolds.counts import count_alike, count_orders, numbered_tree, tree_number
from cutfolds.errors import Stuck
from cutfolds.joinings import can_finish, greatest_tree, joined, joinings, least_tree, safe_joinings
from cutfolds.lattices import Shape
from cutfolds.machines import Machine
from cutfolds.marks import are_alike, fold_marks, marks_of, parting_leaf
from cutfolds.operations import cycle_of_factor, cycle_of_letters, fold_numbers, fold_texts, fold_with
from cutfolds.pieces import cut_tree, is_safe
from cutfolds.rounds import fewest_rounds, flat_tree, least_height, most_values
from cutfolds.text import format_tree, parse_tree
from cutfolds.trees import all_trees, height, left_fold, parts
from tests import support
from tests.support import Promises, counting_turn, numbered, put_behind, told_result

PAIRS = [(0, 1), (0, 2), (0, 3), (1, 1), (1, 2), (2, 1), (2, 2), (3, 1)]


def small_rows(most):
    for tail, ring in PAIRS:
        for size in range(1, most + 1):
            for row in support.all_rows(size, tail, ring):
                yield row, tail, ring


class AnyOrder(Promises):

    def results_of(self, row, results, tail, ring):
        """The results to which all orders of joinings by the rule lead, if the last mark is 0."""
        if len(row) == 1:
            return {results[0]} if row == [0] else set()
        found = set()
        for place in joinings(row, tail, ring):
            left, right = results[place - 1:place + 1]
            put = put_behind(counting_turn(tail, ring)(left), right)
            behind = results[:place - 1] + [put] + results[place + 1:]
            found |= self.results_of(joined(row, tail, ring, place), behind, tail, ring)
        return found

    def test_one_result_is_that_of_every_tree_with_the_marks(self):
        for row, tail, ring in small_rows(4):
            trees = support.trees_by_marks(len(row), tail, ring).get(tuple(row), [])
            told = {told_result(tree, tail, ring) for tree in trees}
            self.assertEqual(self.results_of(row, numbered(1, len(row)), tail, ring), told)
            self.assertEqual(len(told), 1 if can_finish(row, tail, ring) else 0)

    def test_results_of_trees(self):
        for tail, ring in PAIRS:
            for tree in all_trees(6):
                found = fold_with(tree, counting_turn(tail, ring), put_behind, numbered(1, 6))
                self.assertEqual(found, told_result(tree, tail, ring))


class Finishing(Promises):

    def test_all_files_tell_the_same(self):
        for row, tail, ring in small_rows(5):
            told = can_finish(row, tail, ring)
            calls = [
                lambda: least_tree(row, tail, ring), lambda: greatest_tree(row, tail, ring),
                lambda: flat_tree(row, tail, ring), lambda: least_height(row, tail, ring),
                lambda: Machine(None, None, row, tail=tail, ring=ring, marks=row),
            ]
            for call in calls:
                if told:
                    call()
                else:
                    self.assert_error(Stuck, {}, call)
            self.assertEqual(count_alike(row, tail, ring) > 0, told)
            self.assertEqual(count_orders(row, tail, ring) > 0, told)
            if len(row) > 1:
                self.assertEqual(safe_joinings(row, tail, ring) != [], told)

    def test_all_trees_with_the_marks(self):
        for tail, ring in PAIRS:
            for row, trees in support.trees_by_marks(6, tail, ring).items():
                marks = list(row)
                found = [numbered_tree(marks, tail, ring, number) for number in range(count_alike(marks, tail, ring))]
                self.assertEqual(found, trees)
                self.assertEqual([tree_number(tree, tail, ring) for tree in trees], list(range(len(trees))))
                self.assertEqual(least_height(marks, tail, ring), min(height(tree) for tree in trees))
                self.assertIn(flat_tree(marks, tail, ring), trees)


class Agreeing(Promises):

    def test_exactly_if_the_marks_are_the_same(self):
        for tail, ring in PAIRS:
            results = {
                tuple(tree): fold_with(tree, counting_turn(tail, ring), put_behind, numbered(1, 5))
                for tree in all_trees(5)
            }
            for one, two in itertools.product(all_trees(5), repeat=2):
                told = results[tuple(one)] == results[tuple(two)]
                self.assert_same(are_alike(one, two, tail, ring), told)
                self.assert_same(parting_leaf(one, two, tail, ring) is None, told)

    def test_by_the_operations_of_the_document(self):
        letters = {"a": "b", "b": "c", "c": "d", "d": "c"}
        self.assertEqual((cycle_of_letters(letters), cycle_of_factor(6, 36)), ((2, 2), (2, 1)))
        for one, two in itertools.product(all_trees(5), repeat=2):
            texts = [fold_texts(tree, letters, ["a"] * 5) for tree in (one, two)]
            self.assertEqual(texts[0] == texts[1], are_alike(one, two, 2, 2))
            if are_alike(one, two, 2, 1):
                numbers = [fold_numbers(tree, 6, 36, [1, 2, 3, 4, 5]) for tree in (one, two)]
                self.assertEqual(numbers[0], numbers[1])

    def test_led_to_one_another_by_steps(self):
        for tail, ring in PAIRS:
            for trees in support.trees_by_marks(6, tail, ring).values():
                for one, two in itertools.product(trees[:4], trees[-4:]):
                    shape, other = Shape(one, tail, ring), Shape(two, tail, ring)
                    way = shape.way_to(other)
                    self.assertEqual(len(way), shape - other)
                    for leaf, up in way:
                        shape = shape.after(leaf, up)
                        self.assertEqual(shape.marks, other.marks)
                    self.assertEqual(shape.tree, two)


class SharedFolds(Promises):

    def test_pieces(self):
        for tail, ring in PAIRS:
            whole = fold_with(left_fold(6), counting_turn(tail, ring), put_behind, numbered(1, 6))
            for ends in itertools.chain.from_iterable(itertools.combinations(range(1, 6), many) for many in range(6)):
                sizes = [two - one for one, two in itertools.pairwise([0, *ends, 6])]
                found = fold_with(cut_tree(sizes), counting_turn(tail, ring), put_behind, numbered(1, 6))
                self.assert_same(is_safe(sizes, tail, ring), found == whole)

    def test_rounds(self):
        for tail, ring in PAIRS:
            for number in range(1, 41):
                marks = fold_marks(number, tail, ring)
                tree = flat_tree(marks, tail, ring)
                self.assertEqual(marks_of(tree, tail, ring), marks)
                rounds = fewest_rounds(number, tail, ring)
                self.assertEqual(self.rounds_of(tree), rounds)
                self.assertTrue(most_values(rounds, tail, ring) >= number)

    def rounds_of(self, tree):
        """In how many rounds a tree is carried out if each part waits for its own parts alone."""
        both = parts(tree)
        return 0 if both is None else 1 + max(self.rounds_of(part) for part in both)

    def test_machines_of_several_workers(self):
        # Each worker folds a piece, and the pieces are put one behind the other.
        for tail, ring in PAIRS:
            for sizes in ([3, 4, 1, 1, 1], [5, 7, 1, 1], [1, 1, 1, 1, 1, 1], [9, 13, 7, 1, 1]):
                if is_safe(sizes, tail, ring):
                    self.check_workers(sizes, tail, ring)

    def check_workers(self, sizes, tail, ring):
        first, whole = sum(sizes) + 1, None
        # From the last one on: with a greater tail the first ones are stuck without the values at the end.
        for size in reversed(sizes):
            first -= size
            machine = Machine(counting_turn(tail, ring), put_behind, numbered(first, size), tail=tail, ring=ring)
            machine.finish()
            whole = machine if whole is None else machine.followed_by(whole)
        self.assertEqual(len(whole), len(sizes))
        self.assert_same(whole.finish(), told_result(left_fold(sum(sizes)), tail, ring))


class Texts(Promises):

    def test_there_and_back(self):
        trees = [tree for number in range(1, 10) for tree in all_trees(number)]
        texts = [format_tree(tree) for tree in trees]
        self.assertEqual([parse_tree(text) for text in texts], trees)
        self.assertEqual(len(set(texts)), len(trees))


if __name__ == "__main__":
    unittest.main()
