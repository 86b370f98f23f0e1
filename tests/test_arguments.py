"""[2] and the first paragraphs of the interface, for every function of trees, operations and marks."""

import copy
import unittest

from cutfolds import errors
from cutfolds.marks import are_alike, fold_marks, mark, marks_of, parting_leaf, parting_size
from cutfolds.operations import cycle_of_factor, cycle_of_letters, fold_numbers, fold_texts, fold_with, weights
from cutfolds.trees import all_trees, height, left_fold, mirrored, parts, put_together
from tests import support
from tests.support import Promises

TREE = [2, 1, 2, 1, 0]
LETTERS = {"a": "b", "b": "c", "c": "b"}


def turn(one):
    return (one,)


def join(one, two):
    return (one, two)


# Each function with right arguments, under the names and in the order of the interface.
CALLS = [
    (parts, {"tree": TREE}),
    (parts, {"tree": [1, 0]}),
    (parts, {"tree": [0]}),
    (put_together, {"left": TREE, "right": [1, 0]}),
    (put_together, {"left": [0], "right": [0]}),
    (height, {"tree": TREE}),
    (mirrored, {"tree": TREE}),
    (mirrored, {"tree": [0]}),
    (left_fold, {"number": 5}),
    (left_fold, {"number": 1}),
    (all_trees, {"number": 5}),
    (all_trees, {"number": 1}),
    (cycle_of_factor, {"factor": 6, "modulus": 36}),
    (cycle_of_letters, {"letters": LETTERS}),
    (weights, {"tree": TREE, "factor": -3, "modulus": 100}),
    (weights, {"tree": [0], "factor": 3, "modulus": 1}),
    (fold_numbers, {"tree": TREE, "factor": 3, "modulus": 100, "values": [5, -7, 0, 9, 1]}),
    (fold_texts, {"tree": TREE, "letters": LETTERS, "values": ["a", "", "b", "cab", "ab"]}),
    (fold_with, {"tree": TREE, "turn": turn, "join": join, "values": [1, None, "a", (), 2]}),
    (mark, {"depth": 9, "tail": 2, "ring": 3}),
    (marks_of, {"tree": TREE, "tail": 0, "ring": 2}),
    (marks_of, {"tree": [0], "tail": 40, "ring": 1}),
    (fold_marks, {"number": 9, "tail": 2, "ring": 3}),
    (fold_marks, {"number": 1, "tail": 0, "ring": 1}),
    (are_alike, {"tree": TREE, "other": [4, 3, 2, 1, 0], "tail": 0, "ring": 2}),
    (parting_leaf, {"tree": TREE, "other": [4, 3, 2, 1, 0], "tail": 0, "ring": 3}),
    (parting_size, {"tail": 0, "ring": 2, "other_tail": 3, "other_ring": 4}),
]


def wrong_trees():
    """Pairs of what is not a tree, and the index that InvalidTree tells."""
    found = [(thing, None) for thing in support.no_lists()]
    found += [([], None), ([1] * 40 + [0], None), ([None] * 41, None), (list(range(40, -1, -1)), None)]
    found += [([0] * 1000, None)]
    for right in ([0], [1, 0], [2, 1, 0], TREE, [1, 2, 3, 2, 1, 1, 0], list(range(39, -1, -1))):
        last = len(right) - 1
        for at in range(len(right)):
            things = support.no_numbers() + [-1, -10 ** 24] + ([0] if at < last else [])
            for thing in things:
                wrong = right[:at] + [thing] + right[at + 1:]
                found += [(wrong, at), (wrong[:at + 1] + [None] * (last - at), at)]
        for at in range(1, len(right)):
            # Here the thing before is too great, and the one at this place is the wrong one.
            wrong = right[:at - 1] + [right[at] + 2] + right[at:]
            found += [(wrong, at), (wrong[:at + 1] + ["1"] * (last - at), at)]
        for number in (1, 2, 40, 10 ** 24):
            found += [(right[:-1] + [number], last)]
    return found


WRONG_TREES = [
    (thing, errors.InvalidTree, {"index": index})
    for thing, index in (
        (None, None), ([], None), ((1, 0), None), (True, None), ([0] * 41, None), ([True], 0), ([1], 0),
        ([3, 1, 1, 1, 0], 1), ([1, 1, None, 1, False], 2), ([1, 1, 1, 1, 1], 4), (["2", 1, 2, 1, 0], 0),
        ([4, 3, 2, 1, -1], 4), (list(range(40, -1, -1)), None), ([0, 0], 0), ([1, 5, 3, 1, 0], 2),
    )
]
WRONG_NUMBERS = [
    (thing, errors.InvalidNumber, {"number": thing})
    for thing in (0, -1, 41, True, False, None, "1", 1.0, [1], (1,), object(), support.Unlike())
]
WRONG_DEPTHS = [
    (thing, errors.InvalidNumber, {"number": thing})
    for thing in (-1, -10 ** 24, True, False, None, "1", 1.0, [1], (1,), object(), support.Unlike())
]
WRONG_TAILS = [
    (thing, errors.InvalidTail, {"tail": thing})
    for thing in (-1, 41, 10 ** 24, True, False, None, "0", 0.0, [0], (0,), object(), support.Unlike())
]
WRONG_RINGS = [
    (thing, errors.InvalidRing, {"ring": thing})
    for thing in (0, -1, 10001, 10 ** 24, True, False, None, "1", 1.0, [1], (1,), object(), support.Unlike())
]
WRONG_FACTORS = [
    (thing, errors.InvalidFactor, {"factor": thing})
    for thing in (True, False, None, "1", 1.0, [1], (1,), {}, object(), support.Unlike())
]
WRONG_MODULI = [
    (thing, errors.InvalidModulus, {"modulus": thing})
    for thing in (0, -1, 10001, 10 ** 24, True, False, None, "1", 1.0, [1], object(), support.Unlike())
]
WRONG_LETTERS = [
    (thing, errors.InvalidLetters, {"letter": letter})
    for thing, letter in (
        (None, None), ({}, None), ([], None), ("a", None), (True, None), ({"ab": "ab"}, None), ({1: "a"}, None),
        ({"a": "b"}, "a"), ({"b": None, "a": "a"}, "b"), ({"b": "", "a": ["a"]}, "a"),
    )
]


def wrong_values(things):
    """What is wrong as values for five leaves, with what InvalidValues tells."""
    pairs = [(None, None), ([], None), ((1, 2, 3, 4, 5), None), (True, None), ("abcab", None), ([None] * 6, None)]
    return [(thing, errors.InvalidValues, {"index": index}) for thing, index in pairs + things]


WRONG_VALUES = {
    fold_numbers: wrong_values([([1, 2, 3, True, "5"], 3), ([None, 2, 3, 4, 5], 0), ([1, 2, 3, 4, 5.0], 4)]),
    fold_texts: wrong_values([(["a", "", "d", "b", 5], 2), ([None, "", "", "", ""], 0), (["a"] * 4 + ["abA"], 4)]),
    fold_with: wrong_values([]),
}
WRONG = {
    "tree": WRONG_TREES, "other": WRONG_TREES, "left": WRONG_TREES, "right": WRONG_TREES,
    "number": WRONG_NUMBERS, "depth": WRONG_DEPTHS,
    "tail": WRONG_TAILS, "other_tail": WRONG_TAILS, "ring": WRONG_RINGS, "other_ring": WRONG_RINGS,
    "factor": WRONG_FACTORS, "modulus": WRONG_MODULI, "letters": WRONG_LETTERS,
    "turn": [], "join": [],
}


def wrong_ones(function, name):
    return WRONG_VALUES[function] if name == "values" else WRONG[name]


def lists_in(thing):
    """All lists in a thing, itself too."""
    if isinstance(thing, dict):
        return [row for part in thing.values() for row in lists_in(part)]
    if not isinstance(thing, (list, tuple)):
        return []
    inner = [row for part in thing for row in lists_in(part)]
    return [thing] + inner if isinstance(thing, list) else inner


class RightCalls(Promises):

    def test_by_position_and_by_name(self):
        for function, named in CALLS:
            names = list(named)
            told = function(*named.values())
            for many in range(len(names) + 1):
                first = [named[name] for name in names[:many]]
                rest = {name: named[name] for name in names[many:]}
                turned = {name: named[name] for name in reversed(names[many:])}
                with self.subTest(function.__name__, by_position=many):
                    self.assert_same(function(*first, **rest), told)
                    self.assert_same(function(*first, **turned), told)

    def test_arguments_are_left_as_they_were(self):
        for function, named in CALLS:
            with self.subTest(function.__name__):
                given = copy.deepcopy(named)
                function(**given)
                self.assert_same(given, named)

    def test_arguments_are_left_as_they_were_by_wrong_calls(self):
        for function, named in CALLS:
            for name in named:
                for thing, kind, fields in wrong_ones(function, name):
                    with self.subTest(function.__name__, name=name):
                        given = {**copy.deepcopy(named), name: copy_of(thing)}
                        before = snapshot(given)
                        with self.assertRaises(kind):
                            function(**given)
                        self.assertEqual(snapshot(given), before)

    def test_equal_arguments_give_equal_things(self):
        for function, named in CALLS:
            with self.subTest(function.__name__):
                told = repr(function(**named))
                for _ in range(3):
                    self.assertEqual(repr(function(**copy.deepcopy(named))), told)

    def test_lists_are_new_and_none_occurs_twice(self):
        for function, named in CALLS:
            with self.subTest(function.__name__):
                given = copy.deepcopy(named)
                one, other = function(**given), function(**given)
                rows = lists_in(list(given.values())) + lists_in((one, other))
                self.assertEqual(len({id(row) for row in rows}), len(rows))

    def test_changes_to_what_is_returned_do_no_harm(self):
        for function, named in CALLS:
            with self.subTest(function.__name__):
                given = copy.deepcopy(named)
                told = repr(function(**given))
                for row in lists_in(function(**given)):
                    row.append("more")
                    row.reverse()
                self.assert_same(given, named)
                self.assertEqual(repr(function(**given)), told)
                self.assertEqual(repr(function(**named)), told)

    def test_changes_to_arguments_do_no_harm_to_results(self):
        for function, named in CALLS:
            with self.subTest(function.__name__):
                given = copy.deepcopy(named)
                found = function(**given)
                told = repr(found)
                for row in lists_in(list(given.values())):
                    row.clear()
                self.assertEqual(repr(found), told)


def copy_of(thing):
    """A copy of a list or a dict, with the very things in it; other things as they are."""
    return copy.copy(thing) if isinstance(thing, (list, dict)) else thing


def snapshot(given):
    """Which things stand in the arguments."""
    told = {}
    for name, thing in given.items():
        if isinstance(thing, list):
            told[name] = [id(part) for part in thing]
        elif isinstance(thing, dict):
            told[name] = [(id(key), id(part)) for key, part in thing.items()]
        else:
            told[name] = id(thing)
    return told


class WrongCalls(Promises):

    def test_one_wrong_argument(self):
        for function, named in CALLS:
            for name in named:
                for thing, kind, fields in wrong_ones(function, name):
                    given = {**named, name: thing}
                    with self.subTest(function.__name__, name=name):
                        self.assert_error(kind, fields, function, **given)
                        self.assert_error(kind, fields, function, *given.values())

    def test_two_wrong_arguments_at_once(self):
        for function, named in CALLS:
            names = [name for name in named if name not in ("turn", "join")]
            for at, name in enumerate(names):
                for later in names[at + 1:]:
                    for thing, kind, fields in wrong_ones(function, name):
                        for later_thing, _, _ in wrong_ones(function, later):
                            given = {**named, name: thing, later: later_thing}
                            with self.subTest(function.__name__, name=name, later=later):
                                self.assert_error(kind, fields, function, **given)

    def test_all_arguments_wrong_at_once(self):
        for function, named in CALLS:
            given = {name: None for name in named}
            name = next(iter(named))
            for thing, kind, fields in wrong_ones(function, name):
                with self.subTest(function.__name__):
                    self.assert_error(kind, fields, function, **{**given, name: thing})

    def test_every_wrong_tree_in_every_place_for_trees(self):
        wrong = wrong_trees()
        for function, named in CALLS:
            for name in named:
                if name in ("tree", "other", "left", "right"):
                    for thing, index in wrong:
                        given = {**named, name: thing}
                        with self.subTest(function.__name__, name=name):
                            self.assert_error(errors.InvalidTree, {"index": index}, function, **given)

    def test_unequal_leaves(self):
        for function in (are_alike, parting_leaf):
            for thing, kind, fields in WRONG_TREES:
                self.assert_error(kind, fields, function, [1, 0], thing, 0, 2)
                self.assert_error(kind, fields, function, thing, [1, 0], 0, 2)
            for thing, _, _ in WRONG_TAILS:
                told = {"first": 2, "second": 3}
                self.assert_error(errors.UnequalLeaves, told, function, [1, 0], [2, 1, 0], thing, 2)
            for thing, _, _ in WRONG_RINGS:
                told = {"first": 3, "second": 2}
                self.assert_error(errors.UnequalLeaves, told, function, [2, 1, 0], [1, 0], 0, thing)

    def test_wrong_calls_change_nothing_for_later_ones(self):
        for function, named in CALLS:
            told = repr(function(**named))
            for name in named:
                for thing, kind, _ in wrong_ones(function, name)[:5]:
                    with self.subTest(function.__name__, name=name):
                        with self.assertRaises(kind):
                            function(**{**named, name: thing})
                        self.assertEqual(repr(function(**named)), told)


if __name__ == "__main__":
    unittest.main()
