"""cutfolds/text.py: [22], with [6]."""

import itertools
import random
import re
import unittest

from cutfolds.errors import InvalidText, InvalidTree
from cutfolds.text import format_tree, parse_tree
from tests import support
from tests.support import LEAF, Promises, depths_of, even_shape, left_comb, right_comb

# A text that is shortened goes on if its open trees have at most one part each, but perhaps the innermost one.
GOES_ON = re.compile(r"\.|(\(\.?)*(\(\.\.)?")


def text_of(shape):
    """The words of [22]."""
    return "." if shape == LEAF else "(" + text_of(shape[0]) + text_of(shape[1]) + ")"


def shortened(text):
    """The text with each whole tree written as one leaf."""
    while "(..)" in text:
        text = text.replace("(..)", ".")
    return text


def goes_on(text):
    """Whether this is the beginning of a text of a tree of at most 40 leaves, or such a text."""
    return text.count("(") < 40 and GOES_ON.fullmatch(shortened(text)) is not None


def wrong_place(text):
    """Where a text goes wrong; None if it is that of a tree."""
    for place in range(len(text)):
        if not goes_on(text[:place + 1]):
            return place
    return None if shortened(text) == "." else len(text)


class Wrong(Promises):
    """What several cases below check."""

    def check(self, text):
        """That a text is parsed, or goes wrong where it must."""
        place = wrong_place(text)
        if place is None:
            self.assert_same(format_tree(parse_tree(text)), text)
        else:
            self.assert_error(InvalidText, {"place": place}, parse_tree, text)


class Examples(Promises):

    def test_of_the_interface(self):
        self.assert_same((format_tree([2, 1, 1, 0]), parse_tree("(.(..))")), ("((..)(..))", [1, 1, 0]))


class ThereAndBack(Promises):

    def check(self, shape):
        tree, text = depths_of(shape), text_of(shape)
        self.assert_same(format_tree(tree), text)
        self.assert_same(parse_tree(text), tree)
        self.assert_same(parse_tree(format_tree(tree)), tree)

    def test_all_small_trees(self):
        for leaves in range(1, 9):
            for shape in support.shapes(leaves):
                self.check(shape)

    def test_large_trees(self):
        source = random.Random(22)
        for shape in support.large_shapes() + [support.random_shape(40, source) for _ in range(40)]:
            self.check(shape)

    def test_forty_leaves(self):
        self.assert_same(format_tree(list(range(39, -1, -1))), "(" * 39 + "." + ".)" * 39)
        self.assert_same(format_tree([1] * 39 + [0]), "(." * 39 + "." + ")" * 39)
        self.assert_same(parse_tree("(" * 39 + "." + ".)" * 39), list(range(39, -1, -1)))
        self.assert_same(parse_tree("(." * 39 + "." + ")" * 39), [1] * 39 + [0])

    def test_one_leaf(self):
        self.assert_same((format_tree([0]), parse_tree(".")), (".", [0]))

    def test_trees_are_new(self):
        one, two = parse_tree("((..).)"), parse_tree("((..).)")
        one.append(7)
        self.assert_same((two, parse_tree("((..).)")), ([2, 1, 0], [2, 1, 0]))

    def test_kinds_of_texts(self):
        class Text(str):
            pass

        self.assert_same(parse_tree(Text("((..).)")), [2, 1, 0])
        self.assert_error(InvalidText, {"place": 4}, parse_tree, Text("((.."))


class WrongTexts(Wrong):

    def test_the_looking_for_places_itself(self):
        # What goes on is told here by all texts of trees of up to seven leaves.
        texts = [text_of(shape) for leaves in range(1, 8) for shape in support.shapes(leaves)]
        beginnings = {text[:many] for text in texts for many in range(len(text) + 1)}
        for size in range(7):
            for letters in itertools.product("().x", repeat=size):
                text = "".join(letters)
                self.assertEqual(goes_on(text), text in beginnings)

    def test_all_short_texts(self):
        for size in range(8):
            for letters in itertools.product("(.)", repeat=size):
                self.check("".join(letters))

    def test_all_short_texts_with_other_letters(self):
        for size in range(5):
            for letters in itertools.product("(.) x[", repeat=size):
                self.check("".join(letters))

    def test_empty(self):
        self.assert_error(InvalidText, {"place": 0}, parse_tree, "")

    def test_texts_that_end_too_early(self):
        for shape in support.large_shapes() + support.shapes(6):
            text = text_of(shape)
            for many in range(len(text)):
                self.assert_error(InvalidText, {"place": many}, parse_tree, text[:many])

    def test_texts_with_more_behind_the_tree(self):
        for shape in support.large_shapes()[::3] + support.shapes(4) + [LEAF]:
            text = text_of(shape)
            for more in (".", "(", ")", "x", " ", "\n", "(..)", text, "\0"):
                self.assert_error(InvalidText, {"place": len(text)}, parse_tree, text + more)

    def test_one_letter_less_or_more_or_other(self):
        for shape in [left_comb(40), right_comb(40), even_shape(40), even_shape(13)] + support.shapes(5):
            text = text_of(shape)
            for at in range(len(text)):
                self.check(text[:at] + text[at + 1:])
                for letter in "(.)":
                    self.check(text[:at] + letter + text[at + 1:])
                    self.check(text[:at] + letter + text[at:])

    def test_drawn_changes(self):
        source = random.Random(23)
        for _ in range(400):
            letters = list(text_of(support.random_shape(source.randint(1, 45), source)))
            for _ in range(source.randint(0, 3)):
                at = source.randrange(len(letters))
                letters[at] = source.choice(["", "(", ".", ")", ")(", "..", "(.", ".)"])
            self.check("".join(letters))

    def test_other_characters(self):
        for shape in (LEAF, (LEAF, LEAF), ((LEAF, LEAF), LEAF), even_shape(40)):
            text = text_of(shape)
            for at in range(len(text) + 1):
                for other in ("x", " ", "\n", "\t", ",", "[", "0", "\0", "\uff0e", "\u2026", "\U0001f333", "\ud800"):
                    self.assert_error(InvalidText, {"place": at}, parse_tree, text[:at] + other + text[at:])
                    self.assert_error(InvalidText, {"place": at}, parse_tree, text[:at] + other + "(((" + other)

    def test_blanks_are_not_passed_over(self):
        for text, place in ((" .", 0), (". ", 1), ("( ..)", 1), ("(. .)", 2), ("(.. )", 3), ("(..)\n", 4), ("\n", 0)):
            self.assert_error(InvalidText, {"place": place}, parse_tree, text)

    def test_brackets_with_one_part_or_three(self):
        for text, place in (("()", 1), ("(.)", 2), ("(...)", 3), ("(..(..))", 3), ("((.)", 3), (")", 0), (".)", 1)):
            self.assert_error(InvalidText, {"place": place}, parse_tree, text)

    def test_more_than_forty_leaves(self):
        source = random.Random(24)
        shapes = [comb(size) for comb in (left_comb, right_comb, even_shape) for size in (41, 42, 60, 100)]
        shapes += [support.random_shape(source.randint(41, 90), source) for _ in range(40)]
        for shape in shapes:
            text = text_of(shape)
            places = [place for place, letter in enumerate(text) if letter == "("]
            self.assert_error(InvalidText, {"place": places[39]}, parse_tree, text)
            # Up to there it can go on.
            self.assert_error(InvalidText, {"place": places[39]}, parse_tree, text[:places[39]])

    def test_a_fortieth_bracket(self):
        self.assert_error(InvalidText, {"place": 39}, parse_tree, "(" * 39)
        self.assert_error(InvalidText, {"place": 39}, parse_tree, "(" * 40)
        self.assert_error(InvalidText, {"place": 39}, parse_tree, "(" * 2000)
        self.assert_error(InvalidText, {"place": 78}, parse_tree, "(." * 40)
        self.assert_error(InvalidText, {"place": 38}, parse_tree, "(" * 38 + ")")

    def test_leaves_that_are_waited_for_count(self):
        # Here 39 brackets are open or closed, so that 40 leaves come in any case.
        text = "((..)" * 19 + "("
        self.assert_error(InvalidText, {"place": len(text)}, parse_tree, text)
        self.assert_error(InvalidText, {"place": len(text)}, parse_tree, text + "(")
        self.assert_same(len(parse_tree(text + ".." + ")" * 20)), 40)

    def test_long_texts(self):
        self.assert_error(InvalidText, {"place": 1}, parse_tree, "." * 2000)
        self.assert_error(InvalidText, {"place": 0}, parse_tree, ")" * 2000)
        self.assert_error(InvalidText, {"place": 79}, parse_tree, "(." * 39 + "." + "(" * 1900)

    def test_things_that_are_no_text(self):
        class Like:
            def __iter__(self):
                return iter("(..)")

            def __str__(self):
                return "(..)"

            def __len__(self):
                return 4

        things = [
            None, True, False, 0, 1, 1.0, [], [0], ["."], ["(", ".", ".", ")"], (".",), (), {}, {".": 0}, {"."},
            b".", b"(..)", b"", bytearray(b"."), object(), Like(), str, len, iter("."), support.Unlike(),
        ]
        for thing in things:
            self.assert_error(InvalidText, {"place": None}, parse_tree, thing)


class WrongTrees(Promises):

    def test_wrong_trees(self):
        for thing, index in support.wrong_trees():
            self.assert_error(InvalidTree, {"index": index}, format_tree, thing)

    def test_texts_are_no_trees(self):
        for thing in (".", "(..)", ""):
            self.assert_error(InvalidTree, {"index": None}, format_tree, thing)


if __name__ == "__main__":
    unittest.main()
