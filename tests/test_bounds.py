"""[3]: each call within the bounds ends well within ten seconds."""

import itertools
import math
import random
import unittest

from cutfolds.counts import (
    classes, count_alike, count_classes, count_orders, count_trees, numbered_tree, tree_number,
)
from cutfolds.errors import (
    InvalidMarks, InvalidNumber, InvalidPlaces, InvalidSigns, InvalidSizes, InvalidText, InvalidTree, InvalidValues,
    NothingToUndo, Stuck,
)
from cutfolds.joinings import (
    are_safe_at_once, can_finish, greatest_tree, joined, joinings, least_tree, safe_joinings,
)
from cutfolds.lattices import Shape
from cutfolds.machines import Machine
from cutfolds.marks import are_alike, fold_marks, mark, marks_of, parting_leaf, parting_size
from cutfolds.operations import cycle_of_factor, cycle_of_letters, fold_numbers, fold_texts, fold_with, weights
from cutfolds.pieces import count_cuttings, cut_tree, even_cutting, is_safe
from cutfolds.rounds import fewest_rounds, flat_tree, least_height, most_values
from cutfolds.signs import (
    agree_in_signs, can_finish_signs, count_sign_rows, joined_signs, safe_sign_joinings, sign_joinings, signs_of,
    tree_with_signs,
)
from cutfolds.text import format_tree, parse_tree
from cutfolds.trees import all_trees, height, left_fold, mirrored, parts, put_together
from tests import support
from tests.support import Promises, depths_of, ends_soon

MANY = 10 ** 25 - 1
ALPHABET = "abcdefghijklmnopqrstuvwxyz"
COMB, FOLD = [1] * 39 + [0], list(range(39, -1, -1))
# The least and the greatest tails and rings, and the two least rings.
PAIRS = list(itertools.product((0, 1, 40), (1, 2, 3, 10000)))
NEXT_LETTER = {name: ALPHABET[(at + 1) % 26] for at, name in enumerate(ALPHABET)}


def trees_of_forty():
    return [depths_of(shape) for shape in support.large_shapes() if support.leaves_of(shape) == 40]


class Trees(Promises):

    def test_forty_leaves(self):
        for tree in trees_of_forty():
            with ends_soon():
                left, right = parts(tree)
                self.assertEqual(put_together(left, right), tree)
                self.assertEqual(mirrored(mirrored(tree)), tree)
                self.assertTrue(6 <= height(tree) <= 39)

    def test_all_trees(self):
        with ends_soon():
            self.assertEqual(len(all_trees(9)), 1430)

    def test_very_long_lists(self):
        with ends_soon():
            for tree in ([0] * 10 ** 6, list(range(10 ** 6, -1, -1))):
                self.assert_error(InvalidTree, {"index": None}, height, tree)
                self.assert_error(InvalidValues, {"index": None}, fold_with, [0], len, max, tree)


class Operations(Promises):

    def test_cycles_of_factors(self):
        source = random.Random(3)
        factors = [MANY, -MANY, 2, 3, 11, -1, 10 ** 24] + [source.randint(-MANY, MANY) for _ in range(5)]
        for factor in factors:
            for modulus in (10000, 9999, 9973, 9967, 9941, 8192, 6561):
                with ends_soon():
                    tail, ring = cycle_of_factor(factor, modulus)
                self.assertTrue(0 <= tail <= 13 and 1 <= ring <= 9972)

    def test_cycles_of_twenty_six_letters(self):
        with ends_soon():
            self.assert_same(cycle_of_letters(NEXT_LETTER), (0, 26))
            for tail in range(26):
                told = (tail, 26 - tail)
                self.assert_same(cycle_of_letters(support.chain_of_letters(*told)), told)

    def test_numbers(self):
        for tree in trees_of_forty():
            for factor in (MANY, -MANY):
                with ends_soon():
                    told = [pow(factor, depth, 9973) for depth in tree]
                    self.assertEqual(weights(tree, factor, 9973), told)
                    found = fold_numbers(tree, factor, 9973, [-MANY] * 40)
                    self.assert_same(found, sum(told) * -MANY % 9973)

    def test_texts(self):
        for tree in trees_of_forty():
            with ends_soon():
                found = fold_texts(tree, NEXT_LETTER, ["az" * 1000] * 40)
            told = [ALPHABET[depth % 26] + ALPHABET[(depth + 25) % 26] for depth in tree]
            self.assertTrue(found == "".join(pair * 1000 for pair in told))

    def test_texts_that_were_returned(self):
        letters = support.chain_of_letters(25, 1)
        with ends_soon():
            text = fold_texts(left_fold(40), letters, ["a" * 2000] * 40)
            found = fold_texts(left_fold(40), letters, [text] * 40)
        self.assertEqual((len(text), len(found)), (80000, 3200000))
        self.assertEqual((found[0], found[-1]), ("z", "a"))

    def test_any_values(self):
        for tree in trees_of_forty():
            calls = []
            with ends_soon():
                fold_with(tree, calls.append, lambda one, two: calls.append(two), list(range(40)))
            self.assertEqual(len(calls), 78)


class Marks(Promises):

    def test_great_depths(self):
        for tail, ring in ((0, 1), (0, 10000), (40, 1), (40, 10000), (40, 9973)):
            with ends_soon():
                found = mark(MANY, tail, ring)
            self.assert_same(found, tail + (MANY - tail) % ring)

    def test_forty_leaves(self):
        comb = [1] * 39 + [0]
        for tree in trees_of_forty():
            with ends_soon():
                self.assert_same(marks_of(tree, 40, 10000), tree)
                self.assert_same(fold_marks(40, 0, 10000), left_fold(40))
                self.assert_same(are_alike(tree, comb, 40, 10000), tree == comb)
                self.assert_same(parting_leaf(tree, comb, 0, 1), None)

    def test_numbers_of_values_that_tell(self):
        with ends_soon():
            self.assert_same(parting_size(40, 10000, 40, 9999), 10040)
            self.assert_same(parting_size(40, 10000, 40, 10000), None)


def rows_of_forty():
    """Rows of forty marks that can be finished, each with its tail and ring."""
    return [
        (support.marks_of_depths(tree, tail, ring), tail, ring)
        for tail, ring in PAIRS for tree in [COMB, FOLD] + trees_of_forty()
    ]


class Joinings(Promises):

    def test_forty_marks(self):
        for row, tail, ring in rows_of_forty():
            with ends_soon():
                self.assert_same(can_finish(row, tail, ring), True)
                places = safe_joinings(row, tail, ring)
                self.assertTrue(set(places) <= set(joinings(row, tail, ring)))
                self.assertEqual(len(joined(row, tail, ring, places[0])), 39)
                self.assert_same(are_safe_at_once(row, tail, ring, places[:1]), True)
                least, greatest = least_tree(row, tail, ring), greatest_tree(row, tail, ring)
                self.assertTrue(least <= greatest)

    def test_forty_marks_to_the_end(self):
        for row, tail, ring in rows_of_forty()[::7]:
            with ends_soon():
                while len(row) > 1:
                    row = joined(row, tail, ring, safe_joinings(row, tail, ring)[-1])
            self.assertEqual(row, [0])

    def test_very_long_lists(self):
        with ends_soon():
            self.assert_error(InvalidMarks, {"index": None}, can_finish, [0] * 10 ** 6, 0, 1)
            places = [1] * 10 ** 6
            self.assert_error(InvalidPlaces, {"index": 1}, are_safe_at_once, [0] * 40, 0, 1, places)


class Shapes(Promises):

    def test_the_longest_ways(self):
        for tail, ring, many in ((0, 1, 741), (1, 1, 741), (0, 2, 361), (0, 3, 234), (2, 1, 703), (40, 1, 0)):
            greatest = Shape(FOLD, tail, ring)
            least = Shape(support.last_of_steps(FOLD, tail, ring, False), tail, ring)
            with ends_soon():
                self.assert_same((least - greatest, greatest - least), (many, many))
                self.assert_same(len(least.way_to(greatest)), many)
                shape = greatest
                for leaf, up in greatest.way_to(least):
                    shape = shape.after(leaf, up)
                self.assertTrue(shape == least)

    def test_forty_leaves(self):
        for tail, ring in PAIRS:
            greatest = Shape(FOLD, tail, ring)
            least = Shape(support.last_of_steps(FOLD, tail, ring, False), tail, ring)
            with ends_soon():
                self.assertTrue(greatest & least == least and greatest | least == greatest)
                self.assert_same((least.is_below(greatest), len(least), greatest.height()), (True, 40, 39))
                self.assertEqual([up for _, up in greatest.steps() if up], [])
                shape = Shape(FOLD, tail, ring)
                shape &= least
                self.assertTrue(shape == least)
                shape |= greatest
                self.assertTrue(shape == greatest)


class Counts(Promises):

    def test_forty_leaves(self):
        for tail, ring in PAIRS:
            with ends_soon():
                self.assertTrue(1 <= count_classes(40, tail, ring) <= count_trees(40))
                self.assertTrue(1 <= len(classes(9, tail, ring)) <= 1430)

    def test_forty_marks(self):
        for row, tail, ring in rows_of_forty():
            with ends_soon():
                many = count_alike(row, tail, ring)
                self.assertTrue(1 <= many <= count_orders(row, tail, ring))
                tree = numbered_tree(row, tail, ring, many // 2)
                self.assert_same(tree_number(tree, tail, ring), many // 2)
                self.assert_error(InvalidNumber, {"number": many}, numbered_tree, row, tail, ring, many)

    def test_the_greatest_counts(self):
        with ends_soon():
            self.assert_same(count_alike([0] * 40, 0, 1), count_trees(40))
            self.assert_same(count_orders([0] * 40, 0, 1), math.factorial(39))
            self.assert_same(tree_number(FOLD, 0, 1), count_trees(40) - 1)
            self.assert_same(count_alike([0] * 40, 0, 2), 0)


class Pieces(Promises):

    def test_forty_values(self):
        for tail, ring in PAIRS:
            for pieces in range(1, 41):
                with ends_soon():
                    sizes = even_cutting(40, pieces, tail, ring)
                    self.assert_same(is_safe(sizes, tail, ring), True)
                    self.assertEqual(len(cut_tree(sizes)), 40)
                    self.assertTrue(1 <= count_cuttings(40, pieces, tail, ring) <= math.comb(39, pieces - 1))

    def test_very_long_lists(self):
        with ends_soon():
            self.assert_error(InvalidSizes, {"index": 40}, cut_tree, [1] * 10 ** 6)
            self.assert_error(InvalidSizes, {"index": 0}, is_safe, [MANY] * 10 ** 6, 0, 1)


class Rounds(Promises):

    def test_many_values(self):
        for tail, ring in PAIRS:
            with ends_soon():
                rounds = fewest_rounds(10 ** 15, tail, ring)
                self.assertTrue(50 <= rounds <= 10200)
                self.assertTrue(61 <= most_values(60, tail, ring) <= 2 ** 60)
                self.assert_error(InvalidNumber, {"number": MANY}, fewest_rounds, MANY, tail, ring)
                self.assert_error(InvalidNumber, {"number": MANY}, most_values, MANY, tail, ring)

    def test_forty_marks(self):
        for row, tail, ring in rows_of_forty():
            with ends_soon():
                self.assertTrue(6 <= least_height(row, tail, ring) <= 39)
            with ends_soon():
                self.assertEqual(len(flat_tree(row, tail, ring)), 40)

    def test_forty_marks_that_are_all_the_same(self):
        with ends_soon():
            self.assert_same(least_height([0] * 40, 0, 1), 6)
            self.assert_same(height(flat_tree([1] * 39 + [0], 1, 1)), 6)
            self.assert_error(Stuck, {}, least_height, [0] * 40, 0, 2)


class Signs(Promises):

    def test_forty_leaves(self):
        for tree in trees_of_forty():
            with ends_soon():
                row = signs_of(tree)
                self.assert_same((len(row), can_finish_signs(row), agree_in_signs(tree, tree)), (40, True, True))
            with ends_soon():
                places = safe_sign_joinings(row)
                self.assertTrue(places and set(places) <= set(sign_joinings(row)))
                self.assertEqual(len(joined_signs(row, places[-1])), 39)
            with ends_soon():
                self.assert_same(signs_of(tree_with_signs(row)), row)

    def test_forty_signs(self):
        for row in ([1] * 40, [1, -1] * 18 + [1] * 4, [-1, 1] * 19 + [-1, -1]):
            with ends_soon():
                self.assert_same(signs_of(tree_with_signs(row)), row)
        with ends_soon():
            self.assert_same(count_sign_rows(40), 2 ** 40 // 3)
            self.assert_error(Stuck, {}, tree_with_signs, [1, -1] * 20)
            self.assert_error(InvalidSigns, {"index": None}, tree_with_signs, [1] * 10 ** 6)


class Texts(Promises):

    def test_forty_leaves(self):
        for tree in trees_of_forty():
            with ends_soon():
                text = format_tree(tree)
                self.assert_same((len(text), parse_tree(text)), (118, tree))

    def test_two_thousand_characters(self):
        for text, place in (("(" * 2000, 39), ("." * 2000, 1), ("(." * 39 + "." + ")" * 1921, 118), ("x" * 2000, 0)):
            with ends_soon():
                self.assert_error(InvalidText, {"place": place}, parse_tree, text)


class Machines(Promises):

    def machine_of(self, values, tail, ring, marks=None):
        """A machine whose results are the numbers of their first values, and how many there are."""
        return Machine(lambda one: one, self.put, values, tail=tail, ring=ring, marks=marks)

    def put(self, one, two):
        self.assertEqual(one[0] + one[1], two[0])
        return one[0], one[1] + two[1]

    def values(self, first, many):
        return [(number, 1) for number in range(first, first + many)]

    def test_forty_parts(self):
        for row, tail, ring in rows_of_forty():
            machine = self.machine_of(self.values(1, 40), tail, ring, row)
            with ends_soon():
                self.assert_same(machine.safe_places(), safe_joinings(row, tail, ring))
            with ends_soon():
                self.assert_same(machine.finish(), (1, 40))
            with ends_soon():
                for _ in range(39):
                    machine.undo()
                self.assert_same(machine.marks, row)
            with ends_soon():
                self.assertEqual(len(list(machine.run())), 39)

    def test_values_in_portions(self):
        for tail, ring in itertools.product((0, 1, 2, 40), (1, 2, 3, 10000)):
            machine, many = self.machine_of(self.values(1, 40), tail, ring), 40
            # Not more than 2,000 values, nor than 2,000 joinings and additions.
            while many < 1950:
                with ends_soon():
                    while len(machine) > 21 and ring < 10000:
                        machine.join(machine.safe_places()[-1])
                    self.assert_same(machine.finish(), (1, many))
                more = self.values(many + 1, 39)
                with ends_soon():
                    machine += more
                many += 39
            with ends_soon():
                self.assert_same((machine.spans[0], machine.spans[-1]), ((1, many - 39), (many, many)))
                self.assertEqual(len(machine.results), 40)
            with ends_soon():
                both = machine_behind(machine, tail, ring)
                self.assert_same(both.spans[-1], (many + 1, many + 1))
            with ends_soon():
                self.assert_same(machine.finish(), (1, many))

    def test_two_thousand_deeds(self):
        for tail, ring in ((0, 1), (0, 2), (40, 1), (0, 10000)):
            machine = self.machine_of(self.values(1, 40), tail, ring)
            with ends_soon():
                for _ in range(500):
                    machine.join(machine.safe_places()[-1])
                    machine.undo()
                for _ in range(500):
                    machine += []
            with ends_soon():
                for _ in range(500):
                    machine.undo()
                self.assert_error(NothingToUndo, {}, machine.undo)
                self.assert_same(machine.results, self.values(1, 40))

    def test_very_long_lists(self):
        long, machine = [None] * 10 ** 6, self.machine_of([None], 0, 1)
        with ends_soon():
            self.assert_error(InvalidValues, {"index": None}, self.machine_of, long, 0, 1)
            self.assert_error(InvalidMarks, {"index": None}, self.machine_of, [None], 0, 1, long)
            with self.assertRaises(InvalidValues):
                machine += long


def machine_behind(machine, tail, ring):
    """A machine of the parts of a whole one and of a value more."""
    machine.finish()
    single = Machine(lambda one: one, lambda one, two: two, [None], tail=tail, ring=ring)
    both = machine.followed_by(single)
    for _ in range(39):
        machine.undo()
    return both


if __name__ == "__main__":
    unittest.main()
