"""What several tests use: trees as nested pairs, rows of marks, wrong things, errors, limits of time."""

import itertools
import math
import random
import signal
import time
import unittest
from contextlib import contextmanager
from decimal import Decimal
from fractions import Fraction

LEAF = ()
SECONDS = 5

# ---- trees as nested pairs, from which everything is counted anew


def shapes(leaves):
    """All trees with so many leaves, as nested pairs."""
    if leaves == 1:
        return [LEAF]
    return [
        (left, right)
        for size in range(1, leaves)
        for left in shapes(size)
        for right in shapes(leaves - size)
    ]


def random_shape(leaves, source):
    if leaves == 1:
        return LEAF
    size = source.randint(1, leaves - 1)
    return (random_shape(size, source), random_shape(leaves - size, source))


def left_comb(leaves):
    shape = LEAF
    for _ in range(leaves - 1):
        shape = (shape, LEAF)
    return shape


def right_comb(leaves):
    shape = LEAF
    for _ in range(leaves - 1):
        shape = (LEAF, shape)
    return shape


def even_shape(leaves):
    if leaves == 1:
        return LEAF
    return (even_shape(leaves // 2), even_shape(leaves - leaves // 2))


def large_shapes():
    """Some trees of up to 40 leaves, the same ones at each call."""
    source = random.Random(40)
    found = [comb(size) for comb in (left_comb, right_comb, even_shape) for size in (10, 31, 39, 40)]
    return found + [random_shape(size, source) for size in (11, 17, 25, 33, 39, 40, 40, 40, 40)]


def leaves_of(shape):
    return 1 if shape == LEAF else leaves_of(shape[0]) + leaves_of(shape[1])


def depths_of(shape, depth=0):
    """The left depths: each leaf counts the left parts in which it lies."""
    if shape == LEAF:
        return [depth]
    return depths_of(shape[0], depth + 1) + depths_of(shape[1], depth)


def height_of(shape):
    return 0 if shape == LEAF else 1 + max(height_of(shape[0]), height_of(shape[1]))


def mirror_of(shape):
    return LEAF if shape == LEAF else (mirror_of(shape[1]), mirror_of(shape[0]))


def fold_of(shape, turn, join, values):
    """What comes if the words of [5] and [6] are carried out."""
    if shape == LEAF:
        return values[0]
    size = leaves_of(shape[0])
    first = fold_of(shape[0], turn, join, values[:size])
    second = fold_of(shape[1], turn, join, values[size:])
    return join(turn(first), second)


def chain_of_letters(tail, ring):
    """A dict of letters with this tail and ring: a turns into b, and so on."""
    names = "abcdefghijklmnopqrstuvwxyz"[:tail + ring]
    return {name: (names[1:] + names[tail])[at] for at, name in enumerate(names)}


def marks_by_walking(most, tail, ring):
    """The marks of the left depths 0 to `most`: each one is that next to the one before."""
    marks = [0]
    while len(marks) <= most:
        following = marks[-1] + 1
        marks.append(tail if following == tail + ring else following)
    return marks


# ---- rows of marks, gone through by the words of [10], [11] and [15]


def marks_of_depths(tree, tail, ring):
    walked = marks_by_walking(len(tree), tail, ring)
    return [walked[depth] for depth in tree]


def next_marks(tail, ring):
    """A dict with the mark next to each mark."""
    return dict(itertools.pairwise(marks_by_walking(tail + ring, tail, ring)))


def all_rows(size, tail, ring):
    """All rows of so many marks, those that cannot be finished too."""
    return [list(row) for row in itertools.product(range(tail + ring), repeat=size)]


def trees_by_marks(leaves, tail, ring):
    """A dict from each row of marks of trees with so many leaves, as a tuple, to the ascending list of these."""
    found = {}
    for tree in sorted(depths_of(shape) for shape in shapes(leaves)):
        found.setdefault(tuple(marks_of_depths(tree, tail, ring)), []).append(tree)
    return found


def places_by_rule(row, following):
    return [place for place in range(1, len(row)) if row[place - 1] == following[row[place]]]


def row_behind(row, *places):
    """The row behind joinings at places without a common part: the mark of the right one stays."""
    return [mark for place, mark in enumerate(row, 1) if place not in places]


def sets_of_places(places):
    """All lists of places, ascending, of which no two are neighbours."""
    found = [[]]
    for place in places:
        found += [chosen + [place] for chosen in found if not chosen or chosen[-1] + 2 <= place]
    return found


def orders_by_trying(row, following, known):
    """In how many orders joinings lead to the one mark 0; `known` keeps what was counted before."""
    key = tuple(row)
    if key not in known:
        if len(row) == 1:
            known[key] = int(row == [0])
        else:
            behind = [row_behind(row, place) for place in places_by_rule(row, following)]
            known[key] = sum(orders_by_trying(other, following, known) for other in behind)
    return known[key]


def stretches(row, following, one_way):
    """The counts of [15] of a whole row; `one_way` tells how often a product is taken."""
    known = {}
    for size in range(len(row)):
        for start in range(len(row) - size):
            end = start + size
            known[start, end] = int(size == 0) + sum(
                known[start, middle] * known[middle + 1, end] * one_way(size - 1, middle - start)
                for middle in range(start, end) if row[middle] == following[row[end]]
            )
    return known[0, len(row) - 1] if row[-1] == 0 else 0


def alike_by_stretches(row, tail, ring):
    return stretches(row, next_marks(tail, ring), lambda _, __: 1)


def orders_by_stretches(row, tail, ring):
    return stretches(row, next_marks(tail, ring), math.comb)


def is_tree(depths):
    """Whether a list tells a tree, by the words of [6]."""
    return depths[-1] == 0 and min(depths[:-1] + [1]) >= 1 and all(
        one <= two + 1 for one, two in itertools.pairwise(depths)
    )


def tree_behind(tree, tail, ring, leaf, up):
    """What a step of [14] leads to; None if this is no step."""
    depth = tree[leaf - 1]
    other = depth + ring if up else depth - ring
    behind = tree[:leaf - 1] + [other] + tree[leaf:]
    if not is_tree(behind):
        return None
    walked = marks_by_walking(max(depth, other), tail, ring)
    return behind if walked[depth] == walked[other] else None


def steps_of(tree, tail, ring):
    """The steps of [14], each with the tree behind it."""
    tried = {
        (leaf, up): tree_behind(tree, tail, ring, leaf, up)
        for leaf in range(1, len(tree) + 1) for up in (False, True)
    }
    return {step: behind for step, behind in tried.items() if behind}


def last_of_steps(tree, tail, ring, up):
    """The tree to which steps in one direction lead at last."""
    found, before = list(tree), None
    while found != before:
        before = found
        for leaf in range(1, len(tree) + 1):
            found = tree_behind(found, tail, ring, leaf, up) or found
    return found


# ---- values that show what was done to them


def numbered(first, many):
    """Values that tell their numbers, and how often they were turned."""
    return [((number, 0),) for number in range(first, first + many)]


def counting_turn(tail, ring):
    """A turn of such values that has just this tail and this ring, and nothing else in common with others."""
    following = next_marks(tail, ring)
    return lambda row: tuple((number, following[turns]) for number, turns in row)


def put_behind(one, two):
    return one + two


def told_result(tree, tail, ring, first=1):
    """The result of a tree for such values, by the words of [7]."""
    return tuple((first + at, mark) for at, mark in enumerate(marks_of_depths(tree, tail, ring)))


# ---- wrong things


def with_one_wrong(right, things):
    """Copies of a list with one wrong thing at each place, also with wrong things behind it; and the index."""
    found = []
    for at in range(len(right)):
        for thing in things:
            wrong = right[:at] + [thing] + right[at + 1:]
            found += [(wrong, at), (wrong[:at + 1] + [None] * (len(right) - 1 - at), at)]
    return found


class Unlike:
    """A thing that may only be handed on: it cannot be compared, counted, hashed or called."""

    def refuse(self, *_):
        raise AssertionError("a thing was asked what nobody may ask it")

    __eq__ = __ne__ = __lt__ = __gt__ = __le__ = __ge__ = refuse
    __hash__ = __bool__ = __len__ = __iter__ = __call__ = refuse
    __add__ = __radd__ = __int__ = __index__ = __contains__ = __getitem__ = refuse


class Indexed:
    """A thing that Python takes for 1 where it wants an index."""

    def __index__(self):
        return 1

    __int__ = __index__


def no_numbers():
    """Things that are not whole numbers."""
    return [
        True, False, None, "1", "0", "", 1.0, 0.0, 2.5, float("nan"), 1j, Fraction(1), Decimal(1),
        [1], [], (1,), (), {}, {1: 1}, {1}, b"1", b"", object(), Unlike(), Indexed(), int, len,
    ]


def no_lists():
    """Things that are not lists."""
    return [
        None, True, False, 0, 1, 40, "", "0", "10", b"0", 1.0, (), (0,), (1, 0), (2, 1, 0), {}, {0: 0},
        {0: 1, 1: 0}, {0}, frozenset([0]), range(1), range(2, -1, -1), iter([0]), bytearray(b"0"),
        object(), Unlike(), list, len,
    ]


def wrong_trees():
    """Pairs of what is not a tree, and the index that InvalidTree tells."""
    found = [(thing, None) for thing in no_lists()]
    found += [([], None), ([1] * 40 + [0], None), ([None] * 41, None), (list(range(40, -1, -1)), None)]
    found += [([0] * 1000, None)]
    for right in ([0], [1, 0], [2, 1, 0], [2, 1, 2, 1, 0], [1, 2, 3, 2, 1, 1, 0], list(range(39, -1, -1))):
        last = len(right) - 1
        for at in range(len(right)):
            things = no_numbers() + [-1, -10 ** 24] + ([0] if at < last else [])
            for thing in things:
                wrong = right[:at] + [thing] + right[at + 1:]
                found += [(wrong, at), (wrong[:at + 1] + [None] * (last - at), at)]
        for at in range(1, len(right)):
            # Here the thing before is too great, and the one at this place is the wrong one.
            wrong = right[:at - 1] + [right[at] + 2] + right[at:]
            found += [(wrong, at), (wrong[:at + 1] + ["1"] * (last - at), at)]
        for number in (1, 2, 40, 10 ** 24):
            found += [(right[:-1] + [number], last)]
    return found


# ---- errors


class Promises(unittest.TestCase):
    """A test case that can tell which error comes, and with what in its fields."""

    def assert_error(self, kind, fields, call, *args, **named):
        """That exactly this class is raised, with these things in its fields.

        Numbers, texts and None must be equal and of one kind, other things the same.
        """
        with self.assertRaises(kind) as caught:
            call(*args, **named)
        error = caught.exception
        self.assertIs(error.__class__, kind)
        for name, told in fields.items():
            field = getattr(error, name)
            if field is told:
                continue
            self.assertIn(type(told), (int, str))
            self.assertIs(type(field), type(told))
            self.assertEqual(field, told)

    def assert_same(self, found, told):
        """That two things are equal, and of the same kinds throughout: 1 is not True here."""
        self.assertEqual(repr(found), repr(told))
        self.assertEqual(found, told)


# ---- time


@contextmanager
def ends_soon(seconds=SECONDS):
    """Fails what runs longer, and ends it."""
    def stop(_, __):
        raise AssertionError(f"this takes longer than {seconds} seconds")

    before = signal.signal(signal.SIGALRM, stop)
    signal.setitimer(signal.ITIMER_REAL, seconds)
    started = time.perf_counter()
    try:
        yield
    finally:
        signal.setitimer(signal.ITIMER_REAL, 0)
        signal.signal(signal.SIGALRM, before)
    if time.perf_counter() - started > seconds:
        raise AssertionError(f"this takes longer than {seconds} seconds")
