"""Operations that put two values together, and the results of trees by them."""

from math import lcm

from cutfolds.checks import check_tree, is_whole, is_whole_within
from cutfolds.errors import InvalidFactor, InvalidLetters, InvalidModulus, InvalidValues
from cutfolds.trees import parts

MOST_MODULUS = 10000
MOST_LETTERS = 26


def cycle_of_factor(factor, modulus):
    """The tuple of the tail and the ring of a factor by a modulus."""
    _check_factor(factor)
    _check_modulus(modulus)
    return _cycle(1 % modulus, {number: number * factor % modulus for number in range(modulus)})


def cycle_of_letters(letters):
    """The tuple of the tail and the ring of a dict of letters."""
    _check_letters(letters)
    tail = 0
    ring = 1
    for letter in letters:
        own_tail, own_ring = _cycle(letter, letters)
        tail = max(tail, own_tail)
        ring = lcm(ring, own_ring)
    return tail, ring


def weights(tree, factor, modulus):
    """The list of the powers of the factor by which the values count in the result."""
    check_tree(tree)
    _check_factor(factor)
    _check_modulus(modulus)
    powers = [1 % modulus]
    while len(powers) < len(tree):
        powers.append(powers[-1] * factor % modulus)
    return [powers[depth] for depth in tree]


def fold_numbers(tree, factor, modulus, values):
    """The result of a tree for whole numbers."""
    counts = weights(tree, factor, modulus)
    _check_row(values, len(tree))
    for index, value in enumerate(values):
        if not is_whole(value):
            raise InvalidValues(index)
    return sum([count * value for count, value in zip(counts, values)]) % modulus


def fold_texts(tree, letters, values):
    """The result of a tree for texts of the letters."""
    check_tree(tree)
    _check_letters(letters)
    _check_row(values, len(tree))
    for index, value in enumerate(values):
        if not _is_text_of(value, letters):
            raise InvalidValues(index)
    turned = _turned_letters(letters, len(tree))
    return "".join([_replaced(value, turned[depth]) for depth, value in zip(tree, values)])


def fold_with(tree, turn, join, values):
    """The result of a tree for a turn and a join, for values of any kind."""
    check_tree(tree)
    _check_row(values, len(tree))
    # A copy, so that it does not matter what the two functions do to the list.
    return _folded(tree, turn, join, list(values))


def _folded(tree, turn, join, values):
    """The result of a tree that is checked, for as many values."""
    both = parts(tree)
    if both is None:
        return values[0]
    left, right = both
    size = len(left)
    first = _folded(left, turn, join, values[:size])
    second = _folded(right, turn, join, values[size:])
    return join(turn(first), second)


def _cycle(start, following):
    """The tail and the ring of a thing that is followed again and again in a dict."""
    places = {}
    thing = start
    while thing not in places:
        places[thing] = len(places)
        thing = following[thing]
    tail = places[thing]
    return tail, len(places) - tail


def _turned_letters(letters, many):
    """A list of dicts: what the letters are after 0, 1 and so on turns."""
    turned = [{letter: letter for letter in letters}]
    while len(turned) < many:
        before = turned[-1]
        turned.append({letter: letters[before[letter]] for letter in letters})
    return turned


def _replaced(text, table):
    """The text with each letter replaced by what stands for it in the table."""
    return "".join([table[letter] for letter in text])


def _check_factor(factor):
    """Raise InvalidFactor if `factor` is not a whole number."""
    if not is_whole(factor):
        raise InvalidFactor(factor)


def _check_modulus(modulus):
    """Raise InvalidModulus if `modulus` is not a whole number within the bounds."""
    if not is_whole_within(modulus, 1, MOST_MODULUS):
        raise InvalidModulus(modulus)


def _check_letters(letters):
    """Raise InvalidLetters if `letters` is not a dict that turns letters into letters of it."""
    if not isinstance(letters, dict) or not 1 <= len(letters) <= MOST_LETTERS:
        raise InvalidLetters(None)
    if not all([_is_letter(key) for key in letters]):
        raise InvalidLetters(None)
    for key in sorted(list(letters)):
        # Some values cannot be looked up in a dict, so their kind is asked first.
        if not _is_letter(letters[key]) or letters[key] not in letters:
            raise InvalidLetters(key)


def _is_letter(thing):
    """Whether a thing is a text of one character, whichever."""
    return isinstance(thing, str) and len(thing) == 1


def _is_text_of(thing, letters):
    """Whether a thing is a text, perhaps empty, of these letters."""
    return isinstance(thing, str) and all([letter in letters for letter in sorted(set(thing))])


def _check_row(values, many):
    """Raise InvalidValues if `values` is not a list of so many things."""
    if not isinstance(values, list) or len(values) != many:
        raise InvalidValues(None)
