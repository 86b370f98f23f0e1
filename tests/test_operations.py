"""cutfolds/operations.py: [5], [7], [21]."""

import random
import unittest

from cutfolds.errors import InvalidFactor, InvalidLetters, InvalidModulus, InvalidTree, InvalidValues
from cutfolds.operations import cycle_of_factor, cycle_of_letters, fold_numbers, fold_texts, fold_with, weights
from cutfolds.trees import all_trees, left_fold
from tests import support
from tests.support import LEAF, Promises, depths_of

MANY = 10 ** 25 - 1
ALPHABET = "abcdefghijklmnopqrstuvwxyz"
SWAPPED = {"a": "A", "A": "a", "b": "B", "B": "b", "c": "C", "C": "c"}


def some_shapes():
    return [shape for leaves in range(1, 7) for shape in support.shapes(leaves)] + support.large_shapes()


def cycle_by_search(powers):
    """The least tail, and the least ring with it, of a row that goes on for long enough."""
    for tail, first in enumerate(powers):
        if first in powers[tail + 1:]:
            return tail, powers[tail + 1:].index(first) + 1
    raise AssertionError("the row is too short")


def powers_of(factor, modulus, many):
    return [factor ** exponent % modulus for exponent in range(many)]


def random_letters(source, many):
    names = source.sample(ALPHABET + ALPHABET.upper() + "0123456789 .-_", many)
    return {name: source.choice(names) for name in names}


def turned(letters, text):
    return "".join(letters[letter] for letter in text)


def rings_of(*sizes):
    """A dict of letters that turn in rings of these sizes."""
    letters, rest = {}, ALPHABET
    for size in sizes:
        ring, rest = rest[:size], rest[size:]
        letters.update({name: ring[(at + 1) % size] for at, name in enumerate(ring)})
    return letters


class Examples(Promises):

    def test_of_the_interface(self):
        self.assert_same(
            (cycle_of_factor(-1, 10), cycle_of_factor(6, 36), cycle_of_letters({"a": "A", "A": "A"}),
             weights([2, 1, 0], 3, 7)),
            ((0, 2), (2, 1), (1, 1), [2, 3, 1]),
        )
        self.assert_same(
            (fold_numbers([2, 1, 0], -1, 10, [5, 3, 4]),
             fold_texts([2, 1, 0], {"a": "A", "A": "a"}, ["a", "a", "A"])),
            (6, "aAA"),
        )
        found = fold_with([1, 1, 0], lambda one: -one, lambda one, two: one + two, [5, 3, 4])
        self.assert_same(found, -4)


class CycleOfFactor(Promises):

    def test_small_factors_and_moduli(self):
        for modulus in range(1, 41):
            for factor in range(-modulus - 2, 2 * modulus + 3):
                told = cycle_by_search(powers_of(factor, modulus, modulus + 2))
                self.assert_same(cycle_of_factor(factor, modulus), told)

    def test_modulus_of_one(self):
        for factor in (0, 1, -1, 7, MANY, -MANY):
            self.assert_same(cycle_of_factor(factor, 1), (0, 1))

    def test_factors_of_nothing_and_one(self):
        for modulus in (2, 3, 10, 9999, 10000):
            self.assert_same(cycle_of_factor(0, modulus), (1, 1))
            self.assert_same(cycle_of_factor(1, modulus), (0, 1))
            self.assert_same(cycle_of_factor(modulus, modulus), (1, 1))
            self.assert_same(cycle_of_factor(modulus + 1, modulus), (0, 1))

    def test_great_moduli(self):
        self.assert_same(cycle_of_factor(-1, 10000), (0, 2))
        self.assert_same(cycle_of_factor(10, 10000), (4, 1))
        self.assert_same(cycle_of_factor(2, 10000), (4, 500))
        self.assert_same(cycle_of_factor(3, 10000), (0, 500))
        self.assert_same(cycle_of_factor(2, 8192), (13, 1))
        self.assert_same(cycle_of_factor(11, 9973), (0, 9972))

    def test_factors_of_many_digits(self):
        for factor in (MANY, -MANY, 10 ** 24, -10 ** 24, 123456789 ** 2, -(2 ** 80)):
            for modulus in (2, 7, 36, 97, 1000):
                told = cycle_by_search(powers_of(factor % modulus, modulus, modulus + 2))
                self.assert_same(cycle_of_factor(factor, modulus), told)

    def test_tail_and_ring_are_those_of_the_turn(self):
        for factor, modulus in ((6, 36), (-4, 48), (10, 7), (15, 40)):
            tail, ring = cycle_of_factor(factor, modulus)
            for value in range(modulus):
                self.assertEqual(
                    value * factor ** (tail + ring) % modulus, value * factor ** tail % modulus
                )

    def test_wrong_factors(self):
        for factor in support.no_numbers():
            self.assert_error(InvalidFactor, {"factor": factor}, cycle_of_factor, factor, 7)

    def test_wrong_moduli(self):
        for modulus in [0, 10001, 10002, -1, -7, MANY, -MANY] + support.no_numbers():
            self.assert_error(InvalidModulus, {"modulus": modulus}, cycle_of_factor, 3, modulus)


class CycleOfLetters(Promises):

    def test_by_turning_again_and_again(self):
        source = random.Random(21)
        for _ in range(300):
            letters = random_letters(source, source.randint(1, 26))
            rows = ["".join(letters)]
            while rows[-1] not in rows[:-1]:
                rows.append(turned(letters, rows[-1]))
            self.assert_same(cycle_of_letters(letters), cycle_by_search(rows))

    def test_one_letter(self):
        for letter in ("a", "Z", " ", "\n", "\0", "0", "\u00e9", "\u0301", "\ud800", "\U0001f600"):
            self.assert_same(cycle_of_letters({letter: letter}), (0, 1))

    def test_chains(self):
        for tail in range(26):
            for ring in range(1, 27 - tail):
                self.assert_same(cycle_of_letters(support.chain_of_letters(tail, ring)), (tail, ring))

    def test_least_common_multiple_of_the_rings(self):
        self.assert_same(cycle_of_letters(rings_of(4, 6)), (0, 12))
        self.assert_same(cycle_of_letters(rings_of(2, 4, 8)), (0, 8))
        self.assert_same(cycle_of_letters(rings_of(1, 2, 3, 5, 7, 8)), (0, 840))
        self.assert_same(cycle_of_letters(rings_of(4, 3, 5, 7, 1)), (0, 420))
        self.assert_same(cycle_of_letters(rings_of(9, 5, 7, 4, 1)), (0, 1260))

    def test_greatest_tail_comes_from_another_letter_than_the_ring(self):
        letters = {"a": "b", "b": "c", "c": "d", "d": "d", "e": "f", "f": "e", "g": "e"}
        self.assert_same(cycle_of_letters(letters), (3, 2))

    def test_order_of_the_keys_does_not_matter(self):
        letters = {"d": "d", "g": "e", "e": "f", "c": "d", "f": "e", "a": "b", "b": "c"}
        self.assert_same(cycle_of_letters(letters), (3, 2))

    def test_twenty_six_letters_that_are_not_from_a_to_z(self):
        names = "AZ09 .,;:!?-_()[]{}\t\n\u00e4\u0391\u4e2d\ud800\U0001f600"
        self.assertEqual(len(names), 26)
        letters = {name: names[(at + 1) % 26] for at, name in enumerate(names)}
        self.assert_same(cycle_of_letters(letters), (0, 26))


def wrong_letters():
    """Pairs of what is not a dict of letters, and what InvalidLetters tells of it."""
    names = ALPHABET + "A"
    least = [({**{name: name for name in "bcd"}, "a": thing}, "a") for thing in no_letters()]
    least += [({"a": "b", "b": thing, "c": "a"}, "b") for thing in no_letters()]
    least += [({"c": "z", "b": thing, "a": "a"}, "b") for thing in no_letters()]
    keys = [
        {key: key} for key in ("", "ab", "aa", 1, 0, True, None, b"a", ("a",), 1.0, frozenset("a"))
    ]
    keys += [{"a": "a", **key} for key in keys] + [{**key, "a": None} for key in keys]
    others = support.no_lists() + [[], [0], ["a"], ["a", "a"], [("a", "a")], "a", {"a"}, ("a", "a")]
    return least + [(letters, None) for letters in others + keys] + [
        ({name: name for name in names}, None),
        ({name: None for name in names}, None),
        ({}, None),
        ({"a": "b"}, "a"),
        ({"b": "a"}, "b"),
        ({"z": "y", "a": "a", "y": "x"}, "y"),
        ({"b": 1, "a": 1, "B": 1}, "B"),
        ({"\u00e9": 1, "z": 1}, "z"),
        ({"\U0001f600": 1, "\uffff": ""}, "\uffff"),
        ({**{name: name for name in ALPHABET}, "z": "A"}, "z"),
        ({name: "" for name in reversed(ALPHABET)}, "a"),
    ]


def no_letters():
    """Things that are not a text of one letter that is a key of a dict of a, b, c, d."""
    return ["", "ab", "aa", "e", "A", " ", 1, 0, True, None, b"a", ["a"], ("a",), {"a"}, {"a": "a"},
            {}, 1.0, object(), support.Unlike()]


class WrongLetters(Promises):

    def test_cycle_of_letters(self):
        for letters, told in wrong_letters():
            self.assert_error(InvalidLetters, {"letter": told}, cycle_of_letters, letters)

    def test_fold_texts(self):
        for letters, told in wrong_letters():
            self.assert_error(InvalidLetters, {"letter": told}, fold_texts, [1, 0], letters, ["a", "a"])
            self.assert_error(InvalidLetters, {"letter": told}, fold_texts, [1, 0], letters, None)


class Weights(Promises):

    def test_powers(self):
        for shape in some_shapes():
            tree = depths_of(shape)
            for factor, modulus in ((3, 7), (-1, 10), (0, 5), (2, 1), (-MANY, 10000), (6, 36), (10000, 9999)):
                told = [factor ** depth % modulus for depth in tree]
                self.assert_same(weights(tree, factor, modulus), told)

    def test_one_leaf(self):
        self.assert_same(weights([0], 5, 7), [1])
        self.assert_same(weights([0], 0, 7), [1])
        self.assert_same(weights([0], 5, 1), [0])
        self.assert_same(weights([0], 5, 2), [1])

    def test_forty_leaves(self):
        self.assert_same(weights(left_fold(40), 2, 10000), [2 ** (40 - leaf) % 10000 for leaf in range(1, 41)])
        self.assert_same(weights([1] * 39 + [0], -3, 10), [7] * 39 + [1])

    def test_each_value_counts_with_its_weight(self):
        for tree in all_trees(5):
            for at, weight in enumerate(weights(tree, -4, 23)):
                row = [0] * 5
                row[at] = 1
                self.assert_same(fold_numbers(tree, -4, 23, row), weight)

    def test_wrong_factors_and_moduli(self):
        for factor in support.no_numbers():
            self.assert_error(InvalidFactor, {"factor": factor}, weights, [1, 0], factor, 7)
        for modulus in [0, 10001, -1, MANY] + support.no_numbers():
            self.assert_error(InvalidModulus, {"modulus": modulus}, weights, [1, 0], 3, modulus)


class FoldNumbers(Promises):

    def test_as_the_operation_puts_together(self):
        source = random.Random(7)
        pairs = ((3, 7), (-1, 10), (0, 5), (1, 2), (5, 1), (MANY, 10000), (-MANY, 9973), (6, 36))
        for shape in some_shapes():
            for factor, modulus in pairs:
                most = source.choice([5, 10000, MANY])
                values = [source.randint(-most, most) for _ in depths_of(shape)]
                told = support.fold_of(
                    shape, lambda one: one * factor, lambda one, two: one + two, values
                ) % modulus
                self.assert_same(fold_numbers(depths_of(shape), factor, modulus, values), told)

    def test_one_leaf(self):
        for value, told in ((5, 5), (12, 5), (-2, 5), (7, 0), (0, 0), (-7, 0), (-MANY, -MANY % 7)):
            self.assert_same(fold_numbers([0], 3, 7, [value]), told)

    def test_modulus_of_one(self):
        self.assert_same(fold_numbers([0], 3, 1, [5]), 0)
        self.assert_same(fold_numbers([2, 1, 0], 3, 1, [5, -6, MANY]), 0)

    def test_a_turn_of_nothing_leaves_the_last_value(self):
        self.assert_same(fold_numbers([2, 2, 1, 0], 0, 10, [9, 8, 7, 6]), 6)

    def test_wrong_factors_and_moduli(self):
        for factor in support.no_numbers():
            self.assert_error(InvalidFactor, {"factor": factor}, fold_numbers, [0], factor, 7, [1])
        for modulus in [0, 10001, -1, MANY] + support.no_numbers():
            self.assert_error(InvalidModulus, {"modulus": modulus}, fold_numbers, [0], 3, modulus, [1])

    def test_wrong_values(self):
        for thing in support.no_numbers():
            for at in range(4):
                values = [1, -2, 3, 4]
                values[at] = thing
                self.assert_error(InvalidValues, {"index": at}, fold_numbers, [3, 2, 1, 0], 3, 7, values)
                for behind in range(at + 1, 4):
                    values[behind] = "1"
                self.assert_error(InvalidValues, {"index": at}, fold_numbers, [3, 2, 1, 0], 3, 7, values)
        for at in range(40):
            values = [0] * at + [False] * (40 - at)
            self.assert_error(InvalidValues, {"index": at}, fold_numbers, left_fold(40), 3, 7, values)

    def test_no_list_of_so_many_values(self):
        for values in support.no_lists() + [[], [1], [1, 2, 3], [None], [None] * 3, (1, 2)]:
            self.assert_error(InvalidValues, {"index": None}, fold_numbers, [1, 0], 3, 7, values)


class FoldTexts(Promises):

    def test_as_the_operation_puts_together(self):
        source = random.Random(77)
        for shape in some_shapes():
            letters = random_letters(source, source.randint(1, 26))
            values = [random_text(source, letters) for _ in depths_of(shape)]
            told = support.fold_of(
                shape, lambda one: turned(letters, one), lambda one, two: one + two, values
            )
            self.assert_same(fold_texts(depths_of(shape), letters, values), told)

    def test_one_leaf_is_left_as_it_is(self):
        for text in ("", "a", "A", "abcABCcba"):
            self.assert_same(fold_texts([0], SWAPPED, [text]), text)

    def test_empty_texts(self):
        self.assert_same(fold_texts([2, 1, 0], SWAPPED, ["", "", ""]), "")
        self.assert_same(fold_texts([2, 1, 0], SWAPPED, ["", "ab", ""]), "AB")
        self.assert_same(fold_texts([2, 1, 0], SWAPPED, ["ab", "", "C"]), "abC")

    def test_letters_that_are_not_from_a_to_z(self):
        letters = {" ": "\n", "\n": "\u00e9", "\u00e9": " ", "\ud800": "0", "0": "0"}
        values = [" \n", "\u00e9", "\ud8000", " "]
        self.assert_same(fold_texts([3, 2, 1, 0], letters, values), " \n\n00 ")

    def test_wrong_values(self):
        for thing in no_texts():
            for at in range(4):
                values = ["a", "", "bA", "CcB"]
                values[at] = thing
                self.assert_error(InvalidValues, {"index": at}, fold_texts, [3, 2, 1, 0], SWAPPED, values)
                for behind in range(at + 1, 4):
                    values[behind] = "d"
                self.assert_error(InvalidValues, {"index": at}, fold_texts, [3, 2, 1, 0], SWAPPED, values)
        for at in range(40):
            values = ["a"] * at + ["x"] * (40 - at)
            self.assert_error(InvalidValues, {"index": at}, fold_texts, left_fold(40), SWAPPED, values)

    def test_no_list_of_so_many_values(self):
        for values in support.no_lists() + [[], ["a"], ["a"] * 3, [None], ["x"] * 3, ("a", "b"), "ab"]:
            self.assert_error(InvalidValues, {"index": None}, fold_texts, [1, 0], SWAPPED, values)


def random_text(source, letters):
    return "".join(source.choice(sorted(letters)) for _ in range(source.randint(0, 6)))


def no_texts():
    """Things that are not texts of the letters of SWAPPED."""
    return ["d", "ad", "da", "abd", "abdabc", " ", "a ", "a\n", "\u00e1", "1", None, True, False, 0, 1, 1.0,
            b"a", b"", ["a"], [], ("a",), (), {"a"}, {"a": "a"}, {}, object(), support.Unlike()]


class FoldWith(Promises):

    def test_calls_and_their_order(self):
        for shape in some_shapes():
            values = [object() for _ in depths_of(shape)]
            told = Recorder()
            told_result = support.fold_of(shape, told.turn, told.join, values)
            found = Recorder()
            result = fold_with(depths_of(shape), found.turn, found.join, values)
            self.assertEqual(found.calls, told.calls)
            self.assertEqual(len(found.calls), 2 * len(values) - 2)
            self.assertEqual(result, told_result)

    def test_order_of_a_tree_by_hand(self):
        calls = []

        def turn(one):
            calls.append(one)
            return one.upper()

        def join(one, two):
            calls.append((one, two))
            return f"({one}{two})"

        result = fold_with([2, 1, 2, 1, 0], turn, join, ["a", "b", "c", "d", "e"])
        self.assertEqual(result, "((AB)((CD)e))")
        self.assertEqual(
            calls,
            ["a", ("A", "b"), "c", ("C", "d"), "(Cd)", ("(CD)", "e"), "(Ab)", ("(AB)", "((CD)e)")],
        )

    def test_one_leaf_calls_nothing(self):
        def refuse(*_):
            raise AssertionError("nothing is to be called for one leaf")

        for value in (None, 5, [], "a", support.Unlike(), refuse):
            self.assertIs(fold_with([0], refuse, refuse, [value]), value)

    def test_values_of_any_kind(self):
        values = [None, True, 1.5, "a", [], {}, (), support.Unlike(), len, object()]
        result = fold_with(left_fold(10), lambda one: [one], lambda one, two: one + [two], values)
        flat = []
        while isinstance(result, list) and len(result) == 2:
            result, last = result
            flat.append(last)
        flat.append(result)
        self.assertEqual(len(flat), 10)
        for found, told in zip(reversed(flat), values):
            self.assertIs(found, told)

    def test_results_of_any_kind(self):
        for thing in (None, False, 0, "", [], support.Unlike(), NotImplemented):
            seen = []

            def turn(one):
                seen.append(one)
                return thing

            def join(one, two):
                seen.extend([one, two])
                return thing

            self.assertIs(fold_with([2, 1, 0], turn, join, [thing, thing, thing]), thing)
            self.assertEqual(len(seen), 6)
            for one in seen:
                self.assertIs(one, thing)

    def test_functions_need_not_be_as_told_for_operations(self):
        found = fold_with([2, 1, 1, 0], lambda one: one + 1, lambda one, two: one - two, [10, 20, 30, 40])
        self.assert_same(found, ((10 + 1 - 20) + 1) - (30 + 1 - 40))

    def test_same_as_for_texts_and_numbers(self):
        for tree in all_trees(6):
            texts = ["ab", "", "C", "Ac", "b", "a"]
            found = fold_with(tree, lambda one: one.swapcase(), lambda one, two: one + two, texts)
            self.assert_same(found, fold_texts(tree, SWAPPED, texts))
            numbers = [3, -1, 4, 1, -5, 9]
            found = fold_with(tree, lambda one: 5 * one % 12, lambda one, two: (one + two) % 12, numbers)
            self.assert_same(found % 12, fold_numbers(tree, 5, 12, numbers))

    def test_no_list_of_so_many_values(self):
        def refuse(*_):
            raise AssertionError("nothing is to be called for wrong values")

        others = support.no_lists() + [[], [1], [1, 2], [1, 2, 3, 4], (1, 2, 3), "abc", {0: 1, 1: 2, 2: 3}]
        for values in others:
            self.assert_error(InvalidValues, {"index": None}, fold_with, [2, 1, 0], refuse, refuse, values)
        self.assert_error(InvalidValues, {"index": None}, fold_with, [0], refuse, refuse, [])
        self.assert_error(InvalidValues, {"index": None}, fold_with, [0], refuse, refuse, [1, 2])
        self.assert_error(InvalidTree, {"index": 0}, fold_with, [0, 0], refuse, refuse, [1, 2])


class Recorder:
    """A turn and a join that write down how they are called, and return new things."""

    def __init__(self):
        self.calls = []

    def turn(self, one):
        self.calls.append(("turn", one))
        return ("turned", len(self.calls))

    def join(self, one, two):
        self.calls.append(("join", one, two))
        return ("joined", len(self.calls))


class Results(Promises):
    """[7]: each value is turned as many times as its left depth tells."""

    def test_by_left_depths(self):
        for shape in some_shapes():
            if shape == LEAF:
                continue
            tree = depths_of(shape)
            letters = support.chain_of_letters(3, 20)
            values = ["abcdefghijklmnopqrstuvw"[at % 23] for at in range(len(tree))]
            told = ""
            for depth, value in zip(tree, values):
                for _ in range(depth):
                    value = turned(letters, value)
                told += value
            self.assert_same(fold_texts(tree, letters, values), told)

    def test_powers_take_part_in_the_sum(self):
        self.assert_same(fold_numbers([3, 2, 1, 0], 10, 10000, [1, 2, 3, 4]), 1234)
        self.assert_same(fold_numbers([1, 1, 1, 0], 10, 10000, [1, 2, 3, 4]), 64)


if __name__ == "__main__":
    unittest.main()
