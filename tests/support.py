"""What several tests use: trees as nested pairs, wrong things, errors, limits of time."""

import random
import signal
import time
import unittest
from contextlib import contextmanager
from decimal import Decimal
from fractions import Fraction

LEAF = ()
SECONDS = 5

# ---- trees as nested pairs, from which everything is counted anew


def shapes(leaves):
    """All trees with so many leaves, as nested pairs."""
    if leaves == 1:
        return [LEAF]
    return [
        (left, right)
        for size in range(1, leaves)
        for left in shapes(size)
        for right in shapes(leaves - size)
    ]


def random_shape(leaves, source):
    if leaves == 1:
        return LEAF
    size = source.randint(1, leaves - 1)
    return (random_shape(size, source), random_shape(leaves - size, source))


def left_comb(leaves):
    shape = LEAF
    for _ in range(leaves - 1):
        shape = (shape, LEAF)
    return shape


def right_comb(leaves):
    shape = LEAF
    for _ in range(leaves - 1):
        shape = (LEAF, shape)
    return shape


def even_shape(leaves):
    if leaves == 1:
        return LEAF
    return (even_shape(leaves // 2), even_shape(leaves - leaves // 2))


def large_shapes():
    """Some trees of up to 40 leaves, the same ones at each call."""
    source = random.Random(40)
    found = [comb(size) for comb in (left_comb, right_comb, even_shape) for size in (10, 31, 39, 40)]
    return found + [random_shape(size, source) for size in (11, 17, 25, 33, 39, 40, 40, 40, 40)]


def leaves_of(shape):
    return 1 if shape == LEAF else leaves_of(shape[0]) + leaves_of(shape[1])


def depths_of(shape, depth=0):
    """The left depths: each leaf counts the left parts in which it lies."""
    if shape == LEAF:
        return [depth]
    return depths_of(shape[0], depth + 1) + depths_of(shape[1], depth)


def height_of(shape):
    return 0 if shape == LEAF else 1 + max(height_of(shape[0]), height_of(shape[1]))


def mirror_of(shape):
    return LEAF if shape == LEAF else (mirror_of(shape[1]), mirror_of(shape[0]))


def fold_of(shape, turn, join, values):
    """What comes if the words of [5] and [6] are carried out."""
    if shape == LEAF:
        return values[0]
    size = leaves_of(shape[0])
    first = fold_of(shape[0], turn, join, values[:size])
    second = fold_of(shape[1], turn, join, values[size:])
    return join(turn(first), second)


def chain_of_letters(tail, ring):
    """A dict of letters with this tail and ring: a turns into b, and so on."""
    names = "abcdefghijklmnopqrstuvwxyz"[:tail + ring]
    return {name: (names[1:] + names[tail])[at] for at, name in enumerate(names)}


def marks_by_walking(most, tail, ring):
    """The marks of the left depths 0 to `most`: each one is that next to the one before."""
    marks = [0]
    while len(marks) <= most:
        following = marks[-1] + 1
        marks.append(tail if following == tail + ring else following)
    return marks


# ---- wrong things


class Unlike:
    """A thing that may only be handed on: it cannot be compared, counted, hashed or called."""

    def refuse(self, *_):
        raise AssertionError("a thing was asked what nobody may ask it")

    __eq__ = __ne__ = __lt__ = __gt__ = __le__ = __ge__ = refuse
    __hash__ = __bool__ = __len__ = __iter__ = __call__ = refuse
    __add__ = __radd__ = __int__ = __index__ = __contains__ = __getitem__ = refuse


class Indexed:
    """A thing that Python takes for 1 where it wants an index."""

    def __index__(self):
        return 1

    __int__ = __index__


def no_numbers():
    """Things that are not whole numbers."""
    return [
        True, False, None, "1", "0", "", 1.0, 0.0, 2.5, float("nan"), 1j, Fraction(1), Decimal(1),
        [1], [], (1,), (), {}, {1: 1}, {1}, b"1", b"", object(), Unlike(), Indexed(), int, len,
    ]


def no_lists():
    """Things that are not lists."""
    return [
        None, True, False, 0, 1, 40, "", "0", "10", b"0", 1.0, (), (0,), (1, 0), (2, 1, 0), {}, {0: 0},
        {0: 1, 1: 0}, {0}, frozenset([0]), range(1), range(2, -1, -1), iter([0]), bytearray(b"0"),
        object(), Unlike(), list, len,
    ]


# ---- errors


class Promises(unittest.TestCase):
    """A test case that can tell which error comes, and with what in its fields."""

    def assert_error(self, kind, fields, call, *args, **named):
        """That exactly this class is raised, with these things in its fields.

        Numbers, texts and None must be equal and of one kind, other things the same.
        """
        with self.assertRaises(kind) as caught:
            call(*args, **named)
        error = caught.exception
        self.assertIs(error.__class__, kind)
        for name, told in fields.items():
            field = getattr(error, name)
            if field is told:
                continue
            self.assertIn(type(told), (int, str))
            self.assertIs(type(field), type(told))
            self.assertEqual(field, told)

    def assert_same(self, found, told):
        """That two things are equal, and of the same kinds throughout: 1 is not True here."""
        self.assertEqual(repr(found), repr(told))
        self.assertEqual(found, told)


# ---- time


@contextmanager
def ends_soon(seconds=SECONDS):
    """Fails what runs longer, and ends it."""
    def stop(_, __):
        raise AssertionError(f"this takes longer than {seconds} seconds")

    before = signal.signal(signal.SIGALRM, stop)
    signal.setitimer(signal.ITIMER_REAL, seconds)
    started = time.perf_counter()
    try:
        yield
    finally:
        signal.setitimer(signal.ITIMER_REAL, 0)
        signal.signal(signal.SIGALRM, before)
    if time.perf_counter() - started > seconds:
        raise AssertionError(f"this takes longer than {seconds} seconds")
