"""Trees as texts: a point for one leaf, and brackets around two parts."""

from cutfolds.checks import MOST_LEAVES
from cutfolds.errors import InvalidText
from cutfolds.trees import parts


def format_tree(tree):
    """A tree as a text."""
    both = parts(tree)
    if both is None:
        return "."
    left, right = both
    return f"({format_tree(left)}{format_tree(right)})"


def parse_tree(text):
    """The tree that a text writes."""
    if not isinstance(text, str):
        raise InvalidText(None)
    tree = []
    brackets = 0
    # What must come yet, the next thing last: a part, told by its left depth, or None for a closing bracket.
    waiting = [0]
    for place, letter in enumerate(text):
        if not waiting or not _goes_on(letter, waiting[-1], brackets):
            raise InvalidText(place)
        depth = waiting.pop()
        if letter == ".":
            tree.append(depth)
        elif letter == "(":
            brackets = brackets + 1
            waiting.extend([None, depth, depth + 1])
    if waiting:
        raise InvalidText(len(text))
    return tree


def _goes_on(letter, awaited, brackets):
    """Whether a text goes on with a letter where something is awaited, behind so many opening brackets."""
    if awaited is None:
        return letter == ")"
    # Each pair of brackets makes one leaf more, so one pair too many makes too great a tree in the end.
    return letter == "." or (letter == "(" and brackets < MOST_LEAVES - 1)
