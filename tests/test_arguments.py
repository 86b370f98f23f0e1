"""[2] and the first paragraphs of the interface, for every function; the methods have their own tests."""

import copy
import unittest

from cutfolds import errors
from cutfolds.counts import (
    classes, count_alike, count_classes, count_orders, count_trees, numbered_tree, tree_number,
)
from cutfolds.joinings import (
    are_safe_at_once, can_finish, greatest_tree, joined, joinings, least_tree, safe_joinings,
)
from cutfolds.marks import are_alike, fold_marks, mark, marks_of, parting_leaf, parting_size
from cutfolds.operations import cycle_of_factor, cycle_of_letters, fold_numbers, fold_texts, fold_with, weights
from cutfolds.pieces import count_cuttings, cut_tree, even_cutting, is_safe
from cutfolds.rounds import fewest_rounds, flat_tree, least_height, most_values
from cutfolds.signs import (
    agree_in_signs, can_finish_signs, count_sign_rows, joined_signs, safe_sign_joinings, sign_joinings, signs_of,
    tree_with_signs,
)
from cutfolds.text import format_tree, parse_tree
from cutfolds.trees import all_trees, height, left_fold, mirrored, parts, put_together
from tests import support
from tests.support import Promises

TREE = [2, 1, 2, 1, 0]
ROW = [0, 1, 0, 1, 0]
SIGNS = [1, 1, -1, -1, 1]
LETTERS = {"a": "b", "b": "c", "c": "b"}


def turn(one):
    return (one,)


def join(one, two):
    return (one, two)


# Each function with right arguments, under the names and in the order of the interface.
CALLS = [
    (parts, {"tree": TREE}),
    (parts, {"tree": [1, 0]}),
    (parts, {"tree": [0]}),
    (put_together, {"left": TREE, "right": [1, 0]}),
    (put_together, {"left": [0], "right": [0]}),
    (height, {"tree": TREE}),
    (mirrored, {"tree": TREE}),
    (mirrored, {"tree": [0]}),
    (left_fold, {"number": 5}),
    (left_fold, {"number": 1}),
    (all_trees, {"number": 5}),
    (all_trees, {"number": 1}),
    (cycle_of_factor, {"factor": 6, "modulus": 36}),
    (cycle_of_letters, {"letters": LETTERS}),
    (weights, {"tree": TREE, "factor": -3, "modulus": 100}),
    (weights, {"tree": [0], "factor": 3, "modulus": 1}),
    (fold_numbers, {"tree": TREE, "factor": 3, "modulus": 100, "values": [5, -7, 0, 9, 1]}),
    (fold_texts, {"tree": TREE, "letters": LETTERS, "values": ["a", "", "b", "cab", "ab"]}),
    (fold_with, {"tree": TREE, "turn": turn, "join": join, "values": [1, None, "a", (), 2]}),
    (mark, {"depth": 9, "tail": 2, "ring": 3}),
    (marks_of, {"tree": TREE, "tail": 0, "ring": 2}),
    (marks_of, {"tree": [0], "tail": 40, "ring": 1}),
    (fold_marks, {"number": 9, "tail": 2, "ring": 3}),
    (fold_marks, {"number": 1, "tail": 0, "ring": 1}),
    (are_alike, {"tree": TREE, "other": [4, 3, 2, 1, 0], "tail": 0, "ring": 2}),
    (parting_leaf, {"tree": TREE, "other": [4, 3, 2, 1, 0], "tail": 0, "ring": 3}),
    (parting_size, {"tail": 0, "ring": 2, "other_tail": 3, "other_ring": 4}),
    (can_finish, {"marks": ROW, "tail": 0, "ring": 2}),
    (can_finish, {"marks": [0], "tail": 0, "ring": 1}),
    (joinings, {"marks": ROW, "tail": 0, "ring": 2}),
    (joinings, {"marks": [4, 0], "tail": 3, "ring": 2}),
    (safe_joinings, {"marks": ROW, "tail": 0, "ring": 2}),
    (joined, {"marks": ROW, "tail": 0, "ring": 2, "place": 4}),
    (are_safe_at_once, {"marks": ROW, "tail": 0, "ring": 2, "places": [1, 3]}),
    (are_safe_at_once, {"marks": ROW, "tail": 0, "ring": 2, "places": []}),
    (least_tree, {"marks": ROW, "tail": 0, "ring": 2}),
    (greatest_tree, {"marks": ROW, "tail": 0, "ring": 2}),
    (greatest_tree, {"marks": [0], "tail": 40, "ring": 10000}),
    (count_trees, {"number": 5}),
    (count_alike, {"marks": ROW, "tail": 0, "ring": 2}),
    (count_orders, {"marks": ROW, "tail": 0, "ring": 2}),
    (count_classes, {"number": 5, "tail": 0, "ring": 2}),
    (classes, {"number": 4, "tail": 0, "ring": 2}),
    (classes, {"number": 1, "tail": 0, "ring": 1}),
    (tree_number, {"tree": [2, 3, 2, 1, 0], "tail": 0, "ring": 2}),
    (numbered_tree, {"marks": ROW, "tail": 0, "ring": 2, "number": 2}),
    (numbered_tree, {"marks": [0], "tail": 0, "ring": 2, "number": 0}),
    (cut_tree, {"sizes": [2, 3, 1]}),
    (cut_tree, {"sizes": [1]}),
    (is_safe, {"sizes": [2, 3, 1], "tail": 0, "ring": 2}),
    (even_cutting, {"number": 10, "pieces": 3, "tail": 0, "ring": 2}),
    (even_cutting, {"number": 1, "pieces": 1, "tail": 0, "ring": 2}),
    (count_cuttings, {"number": 10, "pieces": 3, "tail": 0, "ring": 2}),
    (fewest_rounds, {"number": 41, "tail": 3, "ring": 2}),
    (fewest_rounds, {"number": 1, "tail": 0, "ring": 1}),
    (most_values, {"rounds": 7, "tail": 3, "ring": 2}),
    (most_values, {"rounds": 0, "tail": 0, "ring": 1}),
    (least_height, {"marks": ROW, "tail": 0, "ring": 2}),
    (flat_tree, {"marks": ROW, "tail": 0, "ring": 2}),
    (flat_tree, {"marks": [0], "tail": 40, "ring": 10000}),
    (signs_of, {"tree": TREE}),
    (signs_of, {"tree": [0]}),
    (agree_in_signs, {"tree": TREE, "other": [4, 3, 2, 1, 0]}),
    (count_sign_rows, {"number": 5}),
    (can_finish_signs, {"signs": SIGNS}),
    (can_finish_signs, {"signs": [-1]}),
    (sign_joinings, {"signs": SIGNS}),
    (safe_sign_joinings, {"signs": SIGNS}),
    (joined_signs, {"signs": SIGNS, "place": 3}),
    (tree_with_signs, {"signs": SIGNS}),
    (tree_with_signs, {"signs": [1]}),
    (format_tree, {"tree": TREE}),
    (format_tree, {"tree": [0]}),
    (parse_tree, {"text": "((..)((..).))"}),
    (parse_tree, {"text": "."}),
]


WRONG_TREES = [
    (thing, errors.InvalidTree, {"index": index})
    for thing, index in (
        (None, None), ([], None), ((1, 0), None), (True, None), ([0] * 41, None), ([True], 0), ([1], 0),
        ([3, 1, 1, 1, 0], 1), ([1, 1, None, 1, False], 2), ([1, 1, 1, 1, 1], 4), (["2", 1, 2, 1, 0], 0),
        ([4, 3, 2, 1, -1], 4), (list(range(40, -1, -1)), None), ([0, 0], 0), ([1, 5, 3, 1, 0], 2),
    )
]
WRONG_NUMBERS = [
    (thing, errors.InvalidNumber, {"number": thing})
    for thing in (0, -1, 41, True, False, None, "1", 1.0, [1], (1,), object(), support.Unlike())
]
WRONG_DEPTHS = [
    (thing, errors.InvalidNumber, {"number": thing})
    for thing in (-1, -10 ** 24, True, False, None, "1", 1.0, [1], (1,), object(), support.Unlike())
]
WRONG_TAILS = [
    (thing, errors.InvalidTail, {"tail": thing})
    for thing in (-1, 41, 10 ** 24, True, False, None, "0", 0.0, [0], (0,), object(), support.Unlike())
]
WRONG_RINGS = [
    (thing, errors.InvalidRing, {"ring": thing})
    for thing in (0, -1, 10001, 10 ** 24, True, False, None, "1", 1.0, [1], (1,), object(), support.Unlike())
]
WRONG_FACTORS = [
    (thing, errors.InvalidFactor, {"factor": thing})
    for thing in (True, False, None, "1", 1.0, [1], (1,), {}, object(), support.Unlike())
]
WRONG_MODULI = [
    (thing, errors.InvalidModulus, {"modulus": thing})
    for thing in (0, -1, 10001, 10 ** 24, True, False, None, "1", 1.0, [1], object(), support.Unlike())
]
WRONG_LETTERS = [
    (thing, errors.InvalidLetters, {"letter": letter})
    for thing, letter in (
        (None, None), ({}, None), ([], None), ("a", None), (True, None), ({"ab": "ab"}, None), ({1: "a"}, None),
        ({"a": "b"}, "a"), ({"b": None, "a": "a"}, "b"), ({"b": "", "a": ["a"]}, "a"),
    )
]


def wrong_values(things):
    """What is wrong as values for five leaves, with what InvalidValues tells."""
    pairs = [(None, None), ([], None), ((1, 2, 3, 4, 5), None), (True, None), ("abcab", None), ([None] * 6, None)]
    return [(thing, errors.InvalidValues, {"index": index}) for thing, index in pairs + things]


WRONG_MARKS = [
    (thing, errors.InvalidMarks, {"index": index})
    for thing, index in (
        (None, None), ([], None), ((0,), None), (True, None), ("0", None), ([0] * 41, None), ([None] * 41, None),
        ([True], 0), ([-1, None], 0), ([0, 10 ** 24, False], 1), ([0, 0, 0.0], 2), ([0, 0, 0, [0], "0"], 3),
    )
]
WRONG_PLACES = [
    (thing, errors.NoJoining, {"place": thing})
    for thing in (0, -1, 5, 6, 10 ** 24, True, False, None, "1", 1.0, [1], (1,), object(), support.Unlike())
]
WRONG_LISTS_OF_PLACES = [
    (thing, errors.InvalidPlaces, {"index": index})
    for thing, index in (
        (None, None), (1, None), ((1, 3), None), (True, None), ("13", None), ({1: 3}, None), ([True], 0),
        ([0, None], 0), ([1, 2, 0], 1), ([3, 1, True], 1), ([2, 2], 1), ([1, 3, 5], 2), ([1, 3.0], 1), ([[1]], 0),
    )
]
WRONG_SIZES = [
    (thing, errors.InvalidSizes, {"index": index})
    for thing, index in (
        (None, None), ([], None), ((1,), None), (True, None), ("1", None), (3, None), ([True], 0), ([41], 0),
        ([1, 0, None], 1), ([1, -1, True], 1), ([40, 1, 0], 1), ([10, 30, "1"], 2), ([1] * 41, 40), ([2, 3, 1.0], 2),
    )
]
WRONG_PIECES = [
    (thing, errors.InvalidNumber, {"number": thing})
    for thing in (0, -1, 11, 40, 10 ** 24, True, False, None, "1", 1.0, [1], object(), support.Unlike())
]
WRONG_ROUNDS = [
    (thing, errors.InvalidNumber, {"number": thing})
    for thing in (-1, 61, 10 ** 24, True, False, None, "1", 1.0, [1], (1,), object(), support.Unlike())
]
WRONG_SIGNS = [
    (thing, errors.InvalidSigns, {"index": index})
    for thing, index in (
        (None, None), ([], None), ((1,), None), (True, None), ("1", None), (1, None), ([1] * 41, None), ([True], 0),
        ([0, None], 0), ([1, 2, False], 1), ([1, -1, 1.0], 2), ([1, -1, -1, [1], "1"], 3), ([-1, -2], 1),
    )
]
WRONG_TEXTS = [
    (thing, errors.InvalidText, {"place": place})
    for thing, place in (
        (None, None), (True, None), (1, None), (["."], None), (b".", None), (object(), None), ("", 0), ("x", 0),
        (")", 0), ("(.", 2), ("..", 1), ("(...)", 3), ("(" * 41, 39), ("(. .)", 2),
    )
]
WRONG_HERE = {
    (fewest_rounds, "number"): [
        (thing, errors.InvalidNumber, {"number": thing})
        for thing in (0, -1, 10 ** 15 + 1, 10 ** 24, True, False, None, "1", 1.0, [1], object(), support.Unlike())
    ],
    (joined_signs, "place"): [
        (thing, errors.NoJoining, {"place": thing})
        for thing in (0, -1, 2, 4, 5, 6, 10 ** 24, True, False, None, "1", 1.0, [1], object(), support.Unlike())
    ],
    (fold_numbers, "values"): wrong_values(
        [([1, 2, 3, True, "5"], 3), ([None, 2, 3, 4, 5], 0), ([1, 2, 3, 4, 5.0], 4)]
    ),
    (fold_texts, "values"): wrong_values(
        [(["a", "", "d", "b", 5], 2), ([None, "", "", "", ""], 0), (["a"] * 4 + ["abA"], 4)]
    ),
    (fold_with, "values"): wrong_values([]),
    (numbered_tree, "number"): [
        (thing, errors.InvalidNumber, {"number": thing})
        for thing in (-1, 3, 4, 10 ** 24, True, False, None, "1", 1.0, [1], object(), support.Unlike())
    ],
}
WRONG = {
    "tree": WRONG_TREES, "other": WRONG_TREES, "left": WRONG_TREES, "right": WRONG_TREES,
    "number": WRONG_NUMBERS, "depth": WRONG_DEPTHS,
    "tail": WRONG_TAILS, "other_tail": WRONG_TAILS, "ring": WRONG_RINGS, "other_ring": WRONG_RINGS,
    "factor": WRONG_FACTORS, "modulus": WRONG_MODULI, "letters": WRONG_LETTERS,
    "marks": WRONG_MARKS, "place": WRONG_PLACES, "places": WRONG_LISTS_OF_PLACES,
    "sizes": WRONG_SIZES, "pieces": WRONG_PIECES,
    "rounds": WRONG_ROUNDS, "signs": WRONG_SIGNS, "text": WRONG_TEXTS,
    "turn": [], "join": [],
}


def wrong_ones(function, name):
    return WRONG_HERE.get((function, name)) or WRONG[name]


def as_checked(named):
    """The names of arguments in the order in which they are checked: tail and ring ahead of marks."""
    first = [name for name in named if name in ("tail", "ring") and "marks" in named]
    return first + [name for name in named if name not in first + ["turn", "join"]]


def lists_in(thing):
    """All lists in a thing, itself too."""
    if isinstance(thing, dict):
        return [row for part in thing.values() for row in lists_in(part)]
    if not isinstance(thing, (list, tuple)):
        return []
    inner = [row for part in thing for row in lists_in(part)]
    return [thing] + inner if isinstance(thing, list) else inner


class RightCalls(Promises):

    def test_by_position_and_by_name(self):
        for function, named in CALLS:
            names = list(named)
            told = function(*named.values())
            for many in range(len(names) + 1):
                first = [named[name] for name in names[:many]]
                rest = {name: named[name] for name in names[many:]}
                turned = {name: named[name] for name in reversed(names[many:])}
                with self.subTest(function.__name__, by_position=many):
                    self.assert_same(function(*first, **rest), told)
                    self.assert_same(function(*first, **turned), told)

    def test_arguments_are_left_as_they_were(self):
        for function, named in CALLS:
            with self.subTest(function.__name__):
                given = copy.deepcopy(named)
                function(**given)
                self.assert_same(given, named)

    def test_arguments_are_left_as_they_were_by_wrong_calls(self):
        for function, named in CALLS:
            for name in named:
                for thing, kind, fields in wrong_ones(function, name):
                    with self.subTest(function.__name__, name=name):
                        given = {**copy.deepcopy(named), name: copy_of(thing)}
                        before = snapshot(given)
                        with self.assertRaises(kind):
                            function(**given)
                        self.assertEqual(snapshot(given), before)

    def test_equal_arguments_give_equal_things(self):
        for function, named in CALLS:
            with self.subTest(function.__name__):
                told = repr(function(**named))
                for _ in range(3):
                    self.assertEqual(repr(function(**copy.deepcopy(named))), told)

    def test_lists_are_new_and_none_occurs_twice(self):
        for function, named in CALLS:
            with self.subTest(function.__name__):
                given = copy.deepcopy(named)
                one, other = function(**given), function(**given)
                rows = lists_in(list(given.values())) + lists_in((one, other))
                self.assertEqual(len({id(row) for row in rows}), len(rows))

    def test_changes_to_what_is_returned_do_no_harm(self):
        for function, named in CALLS:
            with self.subTest(function.__name__):
                given = copy.deepcopy(named)
                told = repr(function(**given))
                for row in lists_in(function(**given)):
                    row.append("more")
                    row.reverse()
                self.assert_same(given, named)
                self.assertEqual(repr(function(**given)), told)
                self.assertEqual(repr(function(**named)), told)

    def test_changes_to_arguments_do_no_harm_to_results(self):
        for function, named in CALLS:
            with self.subTest(function.__name__):
                given = copy.deepcopy(named)
                found = function(**given)
                told = repr(found)
                for row in lists_in(list(given.values())):
                    row.clear()
                self.assertEqual(repr(found), told)


def copy_of(thing):
    """A copy of a list or a dict, with the very things in it; other things as they are."""
    return copy.copy(thing) if isinstance(thing, (list, dict)) else thing


def snapshot(given):
    """Which things stand in the arguments."""
    told = {}
    for name, thing in given.items():
        if isinstance(thing, list):
            told[name] = [id(part) for part in thing]
        elif isinstance(thing, dict):
            told[name] = [(id(key), id(part)) for key, part in thing.items()]
        else:
            told[name] = id(thing)
    return told


class WrongCalls(Promises):

    def test_one_wrong_argument(self):
        for function, named in CALLS:
            for name in named:
                for thing, kind, fields in wrong_ones(function, name):
                    given = {**named, name: thing}
                    with self.subTest(function.__name__, name=name):
                        self.assert_error(kind, fields, function, **given)
                        self.assert_error(kind, fields, function, *given.values())

    def test_two_wrong_arguments_at_once(self):
        for function, named in CALLS:
            names = as_checked(named)
            for at, name in enumerate(names):
                for later in names[at + 1:]:
                    for thing, kind, fields in wrong_ones(function, name):
                        for later_thing, _, _ in wrong_ones(function, later):
                            given = {**named, name: thing, later: later_thing}
                            with self.subTest(function.__name__, name=name, later=later):
                                self.assert_error(kind, fields, function, **given)

    def test_all_arguments_wrong_at_once(self):
        for function, named in CALLS:
            given = {name: None for name in named}
            name = as_checked(named)[0]
            for thing, kind, fields in wrong_ones(function, name):
                with self.subTest(function.__name__):
                    self.assert_error(kind, fields, function, **{**given, name: thing})

    def test_every_wrong_tree_in_every_place_for_trees(self):
        wrong = support.wrong_trees()
        for function, named in CALLS:
            for name in named:
                if name in ("tree", "other", "left", "right"):
                    for thing, index in wrong:
                        given = {**named, name: thing}
                        with self.subTest(function.__name__, name=name):
                            self.assert_error(errors.InvalidTree, {"index": index}, function, **given)

    def test_every_wrong_row_of_marks(self):
        wrong = [(thing, None) for thing in support.no_lists() + [[], [0] * 41, [None] * 41, [0] * 1000]]
        for tail, ring, right in ((0, 2, ROW), (0, 1, [0]), (0, 1, [0] * 40), (3, 2, [4, 3, 2, 1, 0])):
            things = support.no_numbers() + [-1, -2, tail + ring, tail + ring + 1, 10 ** 24]
            for thing, index in wrong + support.with_one_wrong(right, things):
                for function, named in CALLS:
                    if "marks" in named:
                        given = {**named, "marks": thing, "tail": tail, "ring": ring}
                        with self.subTest(function.__name__):
                            self.assert_error(errors.InvalidMarks, {"index": index}, function, **given)

    def test_unequal_leaves(self):
        told = {"first": 2, "second": 3}
        self.assert_error(errors.UnequalLeaves, told, agree_in_signs, [1, 0], [2, 1, 0])
        for function in (are_alike, parting_leaf):
            for thing, kind, fields in WRONG_TREES:
                self.assert_error(kind, fields, function, [1, 0], thing, 0, 2)
                self.assert_error(kind, fields, function, thing, [1, 0], 0, 2)
            for thing, _, _ in WRONG_TAILS:
                told = {"first": 2, "second": 3}
                self.assert_error(errors.UnequalLeaves, told, function, [1, 0], [2, 1, 0], thing, 2)
            for thing, _, _ in WRONG_RINGS:
                told = {"first": 3, "second": 2}
                self.assert_error(errors.UnequalLeaves, told, function, [2, 1, 0], [1, 0], 0, thing)

    def test_wrong_calls_change_nothing_for_later_ones(self):
        for function, named in CALLS:
            told = repr(function(**named))
            for name in named:
                for thing, kind, _ in wrong_ones(function, name)[:5]:
                    with self.subTest(function.__name__, name=name):
                        with self.assertRaises(kind):
                            function(**{**named, name: thing})
                        self.assertEqual(repr(function(**named)), told)


if __name__ == "__main__":
    unittest.main()
