"""cutfolds/lattices.py: [13], [14], and what [2] says of objects."""

import functools
import itertools
import unittest

from cutfolds.errors import InvalidRing, InvalidTail, InvalidTree, NoStep, UnlikeMarks
from cutfolds.lattices import Shape
from cutfolds.marks import marks_of
from tests import support
from tests.support import Promises, depths_of

PAIRS = [(0, 1), (0, 2), (0, 3), (1, 1), (1, 2), (2, 1), (2, 2), (3, 1), (4, 1), (3, 2)]
LARGE_PAIRS = [
    (0, 1), (0, 2), (0, 3), (1, 1), (1, 5), (2, 1), (5, 2), (0, 38), (12, 7), (40, 1), (0, 10000), (40, 10000),
]
WRONG_TAILS = [-1, 41, 42, 10 ** 24] + support.no_numbers()
WRONG_RINGS = [0, -1, 10001, 10 ** 24] + support.no_numbers()
COMB, FOLD = [1] * 39 + [0], list(range(39, -1, -1))


def families(most=6):
    """The trees with the same marks, as lists, with their tails and rings."""
    for tail, ring in PAIRS:
        for leaves in range(1, most + 1):
            for trees in support.trees_by_marks(leaves, tail, ring).values():
                yield trees, tail, ring


def two_of_each_family(most=6):
    for trees, tail, ring in families(most):
        for one, two in itertools.product(trees, repeat=2):
            yield one, two, tail, ring


@functools.cache
def large_pairs():
    """Two trees of many leaves with the same marks: any one, and the least or the greatest one."""
    return [
        (depths_of(shape), support.last_of_steps(depths_of(shape), tail, ring, up), tail, ring)
        for tail, ring in LARGE_PAIRS for shape in support.large_shapes() for up in (False, True)
    ]


def distances(start, trees, tail, ring):
    """The fewest steps from a tree to each other one, by going through them."""
    found = {tuple(start): 0}
    waiting = [start]
    for tree in waiting:
        for behind in support.steps_of(tree, tail, ring).values():
            if tuple(behind) not in found:
                found[tuple(behind)] = found[tuple(tree)] + 1
                waiting.append(behind)
    return [found[tuple(tree)] for tree in trees]


def told(shape):
    """All that a shape tells of itself."""
    return shape.tree, shape.marks, shape.height(), len(shape), shape.steps()


class Examples(Promises):

    def test_of_the_interface(self):
        one, two = (Shape([2, 1, 2, 1, 0], 0, 2), Shape([4, 3, 2, 1, 0], 0, 2))
        self.assert_same(
            (one.marks, two.height(), (one | two).tree, one - two, one.steps(), one.after(2, True).tree),
            ([0, 1, 0, 1, 0], 4, [4, 3, 2, 1, 0], 2, [(2, True)], [2, 3, 2, 1, 0]),
        )
        self.assert_same((one.is_below(two), one.way_to(two)), (True, [(2, True), (1, True)]))


class Making(Promises):

    def test_what_it_tells(self):
        for tail, ring in PAIRS + LARGE_PAIRS:
            for shape in [shape for leaves in range(1, 6) for shape in support.shapes(leaves)]:
                tree = depths_of(shape)
                made = Shape(tree, tail, ring)
                self.assert_same(made.tree, tree)
                self.assert_same(made.marks, support.marks_of_depths(tree, tail, ring))
                self.assert_same(made.height(), support.height_of(shape))
                self.assert_same(len(made), support.leaves_of(shape))

    def test_what_large_ones_tell(self):
        for shape in support.large_shapes():
            tree = depths_of(shape)
            made = Shape(tree, 3, 5)
            self.assert_same((made.tree, made.marks), (tree, marks_of(tree, 3, 5)))
            self.assert_same((made.height(), len(made)), (support.height_of(shape), len(tree)))

    def test_by_position_and_by_name(self):
        tree = [2, 1, 2, 1, 0]
        for made in (
            Shape(tree, 0, 2), Shape(tree, 0, ring=2), Shape(tree, tail=0, ring=2), Shape(tree=tree, tail=0, ring=2),
            Shape(ring=2, tail=0, tree=tree),
        ):
            self.assertTrue(made == Shape(tree, 0, 2))
            other = Shape([4, 3, 2, 1, 0], 0, 2)
            self.assert_same(made.is_below(other=other), True)
            self.assert_same(made.way_to(other=other), made.way_to(other))
            self.assert_same(made.after(leaf=2, up=True).tree, [2, 3, 2, 1, 0])
            self.assert_same(made.after(2, up=True).tree, [2, 3, 2, 1, 0])
            self.assert_same(made.after(up=True, leaf=2).tree, [2, 3, 2, 1, 0])

    def test_it_keeps_a_copy_of_its_tree(self):
        tree = [2, 1, 2, 1, 0]
        shape = Shape(tree, 0, 2)
        before = told(shape)
        tree[0] = 4
        self.assert_same(told(shape), before)
        tree.clear()
        self.assert_same(told(shape), before)
        self.assertTrue(shape == Shape([2, 1, 2, 1, 0], 0, 2))

    def test_its_tree_is_left_as_it_was(self):
        tree = [2, 1, 2, 1, 0]
        shape = Shape(tree, 0, 2)
        shape |= Shape([4, 3, 2, 1, 0], 0, 2)
        self.assertEqual(shape.tree, [4, 3, 2, 1, 0])
        self.assert_same(tree, [2, 1, 2, 1, 0])

    def test_lists_that_are_read_are_new(self):
        shape = Shape([2, 1, 2, 1, 0], 0, 2)
        other = Shape([4, 3, 2, 1, 0], 0, 2)
        before = told(shape)
        for read in (
            lambda: shape.tree, lambda: shape.marks, lambda: shape.steps(), lambda: shape.way_to(other),
            lambda: shape.way_to(shape),
        ):
            first, second = read(), read()
            self.assertIsNot(first, second)
            self.assert_same(first, second)
            first.append(7)
            first.reverse()
            self.assert_same(read(), second)
            self.assert_same(told(shape), before)

    def test_two_of_one_list_are_two(self):
        tree = [2, 1, 2, 1, 0]
        one, two = Shape(tree, 0, 2), Shape(tree, 0, 2)
        one |= Shape([4, 3, 2, 1, 0], 0, 2)
        self.assert_same((one.tree, two.tree), ([4, 3, 2, 1, 0], [2, 1, 2, 1, 0]))

    def test_wrong_trees(self):
        for thing, index in support.wrong_trees():
            self.assert_error(InvalidTree, {"index": index}, Shape, thing, 0, 2)
            self.assert_error(InvalidTree, {"index": index}, Shape, thing, None, 0)

    def test_wrong_tails_and_rings(self):
        for thing in WRONG_TAILS:
            self.assert_error(InvalidTail, {"tail": thing}, Shape, [1, 0], thing, 2)
            self.assert_error(InvalidTail, {"tail": thing}, Shape, [1, 0], tail=thing, ring=None)
        for thing in WRONG_RINGS:
            self.assert_error(InvalidRing, {"ring": thing}, Shape, [1, 0], 0, thing)
            self.assert_error(InvalidTree, {"index": 0}, Shape, [1], 0, thing)

    def test_wrong_calls_leave_the_tree_as_it_was(self):
        tree, wrong = [2, 1, 0], [2, 1, 0, None]
        for args in ((tree, -1, 2), (tree, 0, 0), (wrong, 0, 2)):
            with self.assertRaises(ValueError):
                Shape(*args)
        self.assert_same((tree, wrong), ([2, 1, 0], [2, 1, 0, None]))

    def test_least_and_greatest_tails_and_rings(self):
        for tail, ring in ((0, 1), (40, 1), (0, 10000), (40, 10000)):
            self.assert_same(Shape(FOLD, tail, ring).marks, marks_of(FOLD, tail, ring))


class Equality(Promises):

    def assert_equal(self, one, other, equal):
        for found in (one == other, other == one):
            self.assertIs(found, equal)
        for found in (one != other, other != one):
            self.assertIs(found, not equal)

    def test_trees_tails_and_rings(self):
        made = [
            (Shape(list(tree), tail, ring), (tree, tail, ring))
            for tree in ((0,), (1, 0), (1, 1, 0), (2, 1, 0), (2, 1, 2, 1, 0), (4, 3, 2, 1, 0))
            for tail in (0, 1, 2, 40) for ring in (1, 2, 10000)
        ]
        for (one, key), (other, other_key) in itertools.product(made, repeat=2):
            self.assert_equal(one, other, key == other_key)

    def test_the_same_marks_are_not_enough(self):
        self.assert_equal(Shape([2, 1, 2, 1, 0], 0, 2), Shape([4, 3, 2, 1, 0], 0, 2), False)
        self.assert_equal(Shape([0], 0, 2), Shape([0], 1, 2), False)
        self.assert_equal(Shape([0], 0, 2), Shape([0], 0, 3), False)
        self.assert_equal(Shape([1, 0], 5, 1), Shape([1, 0], 4, 2), False)

    def test_made_in_other_ways(self):
        one, two = Shape([2, 1, 2, 1, 0], 0, 2), Shape([4, 3, 2, 1, 0], 0, 2)
        self.assert_equal(one | two, two, True)
        self.assert_equal(one & two, one, True)
        self.assert_equal(one.after(2, True).after(1, True), two, True)
        self.assert_equal(one, one, True)
        one |= two
        self.assert_equal(one, two, True)

    def test_things_of_other_classes(self):
        class Like:
            tree, marks, tail, ring = [2, 1, 0], [0, 1, 0], 0, 2

            def __len__(self):
                return 3

        shape = Shape([2, 1, 0], 0, 2)
        for thing in (
            [2, 1, 0], (2, 1, 0), ([2, 1, 0], 0, 2), [[2, 1, 0], 0, 2], [0, 1, 0], None, True, False, 0, 3, "",
            "[2, 1, 0]", {}, {"tree": [2, 1, 0]}, 2.0, object(), Like(), Shape, NotImplemented,
        ):
            self.assert_equal(shape, thing, False)


class LesserAndGreater(Promises):

    def check(self, one, two, tail, ring):
        lesser = [min(pair) for pair in zip(one, two)]
        greater = [max(pair) for pair in zip(one, two)]
        first, second = Shape(one, tail, ring), Shape(two, tail, ring)
        both, either = first & second, first | second
        self.assert_same((both.tree, either.tree), (lesser, greater))
        self.assertTrue(both == Shape(lesser, tail, ring) and either == Shape(greater, tail, ring))
        self.assertEqual((both.marks, either.marks), (first.marks, second.marks))
        self.assertTrue(all(made is not shape for made in (both, either) for shape in (first, second)))
        self.assert_same((first.tree, second.tree), (one, two))

    def test_all_small_ones(self):
        for one, two, tail, ring in two_of_each_family():
            self.check(one, two, tail, ring)

    def test_large_ones(self):
        for one, two, tail, ring in large_pairs():
            self.check(one, two, tail, ring)
            self.check(two, one, tail, ring)

    def test_neither_is_below(self):
        one, two = Shape([3, 2, 1, 1, 0], 0, 1), Shape([1, 2, 2, 1, 0], 0, 1)
        self.assert_same(((one & two).tree, (one | two).tree), ([1, 2, 1, 1, 0], [3, 2, 2, 1, 0]))
        self.assert_same((one.is_below(two), two.is_below(one), one - two), (False, False, 3))

    def test_the_new_shape_is_another_object(self):
        one, two = Shape([2, 1, 2, 1, 0], 0, 2), Shape([4, 3, 2, 1, 0], 0, 2)
        for made, tree in ((one & two, one.tree), (one | two, two.tree), (one & one, one.tree), (two | two, two.tree)):
            self.assertEqual(made.tree, tree)
            made &= one
            made |= Shape([2, 3, 2, 1, 0], 0, 2)
            self.assertEqual(made.tree, [2, 3, 2, 1, 0])
            self.assert_same((one.tree, two.tree), ([2, 1, 2, 1, 0], [4, 3, 2, 1, 0]))

    def test_in_place_for_all_small_ones(self):
        for one, two, tail, ring in two_of_each_family(5):
            for lesser in (True, False):
                self.check_in_place(one, two, tail, ring, lesser)

    def check_in_place(self, one, two, tail, ring, lesser):
        shape, other, bystander = Shape(one, tail, ring), Shape(two, tail, ring), Shape(one, tail, ring)
        same, read, choose = shape, shape.tree, min if lesser else max
        if lesser:
            shape &= other
        else:
            shape |= other
        self.assertIs(shape, same)
        self.assert_same(same.tree, [choose(pair) for pair in zip(one, two)])
        self.assertTrue(told(same) == told(Shape(same.tree, tail, ring)) and same == Shape(same.tree, tail, ring))
        self.assert_same((other.tree, bystander.tree, read), (two, one, one))

    def test_in_place_the_two_stay_apart(self):
        one, two = Shape([2, 1, 2, 1, 0], 0, 2), Shape([4, 3, 2, 1, 0], 0, 2)
        one |= two
        two &= Shape([2, 1, 2, 1, 0], 0, 2)
        self.assert_same((one.tree, two.tree), ([4, 3, 2, 1, 0], [2, 1, 2, 1, 0]))
        one &= two
        one |= Shape([2, 3, 2, 1, 0], 0, 2)
        self.assert_same((one.tree, two.tree), ([2, 3, 2, 1, 0], [2, 1, 2, 1, 0]))

    def test_in_place_with_itself(self):
        one = same = Shape([2, 3, 2, 1, 0], 0, 2)
        one &= one
        one |= one
        self.assertIs(one, same)
        self.assert_same(one.tree, [2, 3, 2, 1, 0])

    def test_in_place_in_a_list_and_an_attribute(self):
        rows = [Shape([2, 1, 2, 1, 0], 0, 2)]
        same = rows[0]
        rows[0] |= Shape([4, 3, 2, 1, 0], 0, 2)
        self.assertIs(rows[0], same)
        self.assert_same(same.tree, [4, 3, 2, 1, 0])


class Steps(Promises):

    def test_steps_of_all_small_ones(self):
        for trees, tail, ring in families():
            for tree in trees:
                self.assert_same(Shape(tree, tail, ring).steps(), sorted(support.steps_of(tree, tail, ring)))

    def test_steps_of_large_ones(self):
        for tree, other, tail, ring in large_pairs()[::3]:
            for one in (tree, other):
                self.assert_same(Shape(one, tail, ring).steps(), sorted(support.steps_of(one, tail, ring)))

    def test_steps_stay_among_the_trees_with_the_marks(self):
        for trees, tail, ring in families():
            for tree in trees:
                for leaf, up in Shape(tree, tail, ring).steps():
                    self.assertIn(Shape(tree, tail, ring).after(leaf, up).tree, trees)

    def test_none_where_a_tree_is_alone(self):
        for tree, tail, ring in (([0], 0, 1), ([1, 0], 0, 1), (FOLD, 40, 1), (COMB, 40, 10000), (FOLD, 0, 39)):
            self.assert_same(Shape(tree, tail, ring).steps(), [])

    def test_up_and_down_at_one_leaf(self):
        self.assert_same(Shape([2, 2, 1, 0], 0, 1).steps(), [(1, False), (1, True), (2, False)])
        self.assert_same(Shape([2, 2, 1, 0], 1, 1).steps(), [(1, False), (1, True), (2, False)])
        self.assert_same(Shape([2, 2, 1, 0], 2, 1).steps(), [(1, True)])
        self.assert_same(Shape([2, 2, 1, 0], 3, 1).steps(), [])

    def test_after(self):
        for trees, tail, ring in families(5):
            for tree in trees:
                shape, found = Shape(tree, tail, ring), support.steps_of(tree, tail, ring)
                for (leaf, up), behind in found.items():
                    made = shape.after(leaf, up)
                    self.assertIsNot(made, shape)
                    self.assertTrue(made == Shape(behind, tail, ring))
                    self.assert_same((made.tree, shape.tree), (behind, tree))
                for leaf, up in itertools.product(range(-2, len(tree) + 3), (False, True)):
                    if (leaf, up) not in found:
                        self.assert_error(NoStep, {"leaf": leaf}, shape.after, leaf, up)
                self.assert_same(shape.tree, tree)

    def test_the_shape_behind_a_step_is_another_object(self):
        one = Shape([2, 1, 2, 1, 0], 0, 2)
        made = one.after(2, True)
        made |= Shape([4, 3, 2, 1, 0], 0, 2)
        self.assert_same((one.tree, made.tree), ([2, 1, 2, 1, 0], [4, 3, 2, 1, 0]))
        one |= Shape([4, 3, 2, 1, 0], 0, 2)
        made &= Shape([2, 1, 2, 1, 0], 0, 2)
        self.assert_same((one.tree, made.tree), ([4, 3, 2, 1, 0], [2, 1, 2, 1, 0]))

    def test_things_that_are_no_leaf(self):
        shape = Shape([2, 2, 1, 0], 0, 1)
        for thing in support.no_numbers() + [0, -1, -3, 4, 5, 41, 10 ** 24]:
            for up in (True, False, None):
                self.assert_error(NoStep, {"leaf": thing}, shape.after, thing, up)
        self.assert_same(shape.tree, [2, 2, 1, 0])

    def test_things_that_are_no_bool(self):
        shape = Shape([2, 2, 1, 0], 0, 1)
        for thing in [0, 1, 2, -1, None, "True", "", 1.0, 0.0, [], [True], (True,), object(), support.Unlike(), bool]:
            for leaf in (1, 2, 3):
                self.assert_error(NoStep, {"leaf": leaf}, shape.after, leaf, thing)
        self.assert_same(shape.tree, [2, 2, 1, 0])

    def test_steps_behind_a_change(self):
        shape = Shape([2, 1, 2, 1, 0], 0, 2)
        self.assert_same(shape.steps(), [(2, True)])
        shape |= Shape([2, 3, 2, 1, 0], 0, 2)
        self.assert_same(shape.steps(), [(1, True), (2, False)])
        self.assert_same(shape.after(2, False).tree, [2, 1, 2, 1, 0])
        self.assert_error(NoStep, {"leaf": 2}, shape.after, 2, True)


class Ways(Promises):

    def check_way(self, one, two, tail, ring, many):
        first, second = Shape(one, tail, ring), Shape(two, tail, ring)
        self.assert_same(first - second, many)
        way = first.way_to(second)
        self.assertIs(type(way), list)
        self.assertEqual(len(way), many)
        shape = first
        for step in way:
            self.assertEqual([type(part) for part in step], [int, bool])
            self.assertIs(type(step), tuple)
            self.assertIn(step, shape.steps())
            shape = shape.after(*step)
        self.assertTrue(shape == second)
        self.assert_same((first.tree, second.tree), (one, two))

    def test_all_small_ones_by_going_through_the_trees(self):
        for trees, tail, ring in families():
            for one in trees:
                for two, many in zip(trees, distances(one, trees, tail, ring)):
                    self.check_way(one, two, tail, ring, many)

    def test_large_ones(self):
        for one, two, tail, ring in large_pairs()[::7]:
            many = sum(abs(here - there) for here, there in zip(one, two)) // ring
            self.check_way(one, two, tail, ring, many)
            self.check_way(two, one, tail, ring, many)

    def test_up_and_down_on_one_way(self):
        one, two = [3, 2, 1, 1, 2, 1, 0], [1, 2, 2, 3, 2, 1, 0]
        for first, second in ((one, two), (two, one)):
            self.check_way(first, second, 0, 1, 5)
        one, two = [5, 4, 3, 2, 1, 2, 1, 0], [1, 2, 1, 4, 3, 2, 1, 0]
        for first, second in ((one, two), (two, one)):
            self.check_way(first, second, 0, 2, 6)

    def test_from_a_shape_to_itself(self):
        for tree in ([0], [2, 1, 0], [1, 2, 2, 1, 0]):
            shape = Shape(tree, 0, 1)
            self.assert_same((shape - shape, shape.way_to(shape), shape.is_below(shape)), (0, [], True))
            self.assert_same(shape.way_to(Shape(tree, 0, 1)), [])

    def test_is_below(self):
        for one, two, tail, ring in two_of_each_family():
            below = all(here <= there for here, there in zip(one, two))
            self.assert_same(Shape(one, tail, ring).is_below(Shape(two, tail, ring)), below)

    def test_is_below_at_each_leaf(self):
        for at in range(39):
            other = FOLD[:at] + [FOLD[at] - 1] + FOLD[at + 1:]
            if support.is_tree(other):
                self.assert_same(Shape(FOLD, 0, 1).is_below(Shape(other, 0, 1)), False)
                self.assert_same(Shape(other, 0, 1).is_below(Shape(FOLD, 0, 1)), True)


class Unlike(Promises):

    def calls(self, one, two):
        def lesser():
            shape = one
            shape &= two

        def greater():
            shape = one
            shape |= two

        return [
            lambda: one & two, lambda: one | two, lambda: one - two, lambda: one.is_below(two),
            lambda: one.way_to(two), lesser, greater,
        ]

    def assert_unlike(self, one, two, kinds=UnlikeMarks):
        before = told(one)
        for call in self.calls(one, two):
            with self.assertRaises(kinds):
                call()
            self.assert_same(told(one), before)

    def test_other_marks(self):
        for tail, ring in PAIRS:
            trees = [depths_of(shape) for leaves in (1, 2, 3, 4) for shape in support.shapes(leaves)]
            for one, two in itertools.product(trees, repeat=2):
                alike = [support.marks_of_depths(tree, tail, ring) for tree in (one, two)]
                if alike[0] != alike[1]:
                    self.assert_unlike(Shape(one, tail, ring), Shape(two, tail, ring))

    def test_other_tails(self):
        # The marks of these are equal, and so are the trees.
        for tree in ([0], [1, 0], [2, 1, 0], [2, 2, 1, 0]):
            for tail, other_tail in itertools.permutations((3, 4, 40), 2):
                one, two = Shape(tree, tail, 2), Shape(tree, other_tail, 2)
                self.assertEqual(one.marks, two.marks)
                self.assert_unlike(one, two)
        self.assert_unlike(Shape([1, 1, 0], 0, 5), Shape([1, 1, 0], 1, 5))
        self.assert_unlike(Shape([0], 0, 1), Shape([0], 1, 1))

    def test_other_rings(self):
        for tree in ([0], [1, 0], [2, 1, 0], [2, 2, 1, 0]):
            for ring, other_ring in itertools.permutations((3, 4, 10000), 2):
                one, two = Shape(tree, 0, ring), Shape(tree, 0, other_ring)
                self.assertEqual(one.marks, two.marks)
                self.assert_unlike(one, two)
        self.assert_unlike(Shape([0], 0, 1), Shape([0], 0, 2))

    def test_other_numbers_of_leaves(self):
        self.assert_unlike(Shape([1, 1, 0], 0, 1), Shape([1, 0], 0, 1))
        self.assert_unlike(Shape([1, 0], 0, 1), Shape([1, 1, 0], 0, 1))
        self.assert_unlike(Shape(FOLD, 0, 1), Shape(FOLD[1:], 0, 1))

    def test_like_marks_of_which_only_some_are_equal(self):
        self.assert_unlike(Shape([2, 1, 2, 1, 0], 0, 2), Shape([1, 1, 2, 1, 0], 0, 2))
        self.assert_unlike(Shape([2, 1, 2, 1, 0], 0, 2), Shape([3, 2, 2, 1, 0], 0, 2))

    def test_things_that_are_no_shapes(self):
        # The document names UnlikeMarks for two that differ; how other kinds fail is left open here.
        for thing in (None, True, 0, 1, "", "[1, 0]", [1, 0], (1, 0), {}, object()):
            self.assert_unlike(Shape([1, 0], 0, 1), thing, (UnlikeMarks, TypeError, AttributeError))


if __name__ == "__main__":
    unittest.main()
