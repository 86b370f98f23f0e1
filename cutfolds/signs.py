"""Signs of leaves, for turns that change nothing when made twice and operations that turn both values."""

from cutfolds.checks import MOST_LEAVES, check_number, check_two_trees, is_whole
from cutfolds.errors import InvalidSigns, NoJoining, Stuck
from cutfolds.trees import parts, put_together


def signs_of(tree):
    """The list of the signs of the leaves of a tree."""
    both = parts(tree)
    if both is None:
        return [1]
    # A leaf lies in one part more than it does within its part.
    return [-sign for part in both for sign in signs_of(part)]


def agree_in_signs(tree, other):
    """Whether two trees with equally many leaves have the same signs."""
    check_two_trees(tree, other)
    return signs_of(tree) == signs_of(other)


def count_sign_rows(number):
    """The number of rows of so many signs that can be finished."""
    check_number(number, 1, MOST_LEAVES)
    if number == 1:
        return 1
    return (1 << number) // 3


def can_finish_signs(signs):
    """Whether a row of signs can be finished."""
    places = sign_joinings(signs)
    return sum(signs) % 3 == 1 and (len(signs) == 1 or len(places) > 0)


def sign_joinings(signs):
    """The list of the places, ascending, at which neighbours may be joined."""
    _check_signs(signs)
    return [place for place in range(1, len(signs)) if signs[place - 1] == signs[place]]


def safe_sign_joinings(signs):
    """The list of the places, ascending, of the joinings behind which the row can be finished."""
    return [place for place in sign_joinings(signs) if can_finish_signs(_signs_behind(signs, place))]


def joined_signs(signs, place):
    """The signs behind a joining at a place."""
    possible = sign_joinings(signs)
    if not is_whole(place) or place not in possible:
        raise NoJoining(place)
    return _signs_behind(signs, place)


def tree_with_signs(signs):
    """A tree with these signs."""
    if not can_finish_signs(signs):
        raise Stuck("no tree has these signs")
    row = list(signs)
    trees = [[0] for _ in row]
    while len(row) > 1:
        place = safe_sign_joinings(row)[0]
        row = _signs_behind(row, place)
        trees[place - 1:place + 1] = [put_together(trees[place - 1], trees[place])]
    return trees[0]


def _signs_behind(signs, place):
    """The signs behind a joining of two equal ones, which leaves the other sign."""
    return signs[:place - 1] + [-signs[place]] + signs[place + 1:]


def _check_signs(signs):
    """Raise InvalidSigns if `signs` is not a row of signs."""
    if not isinstance(signs, list) or not 1 <= len(signs) <= MOST_LEAVES:
        raise InvalidSigns(None)
    for index, sign in enumerate(signs):
        if not is_whole(sign) or sign not in (1, -1):
            raise InvalidSigns(index)
