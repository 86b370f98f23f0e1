"""Rows cut into pieces that are folded from the left each, and then their results from the left."""

from math import comb

from cutfolds.checks import MOST_LEAVES, check_number, check_ring, check_tail, is_whole
from cutfolds.errors import InvalidSizes
from cutfolds.marks import are_alike
from cutfolds.trees import left_fold


def cut_tree(sizes):
    """The tree for pieces of some sizes."""
    _check_sizes(sizes)
    # The result of a piece lies in as many left parts as there are pieces behind it.
    behind = left_fold(len(sizes))
    return [depth + more for size, more in zip(sizes, behind) for depth in left_fold(size)]


def is_safe(sizes, tail, ring):
    """Whether folding by pieces of some sizes agrees with folding from the left."""
    tree = cut_tree(sizes)
    return are_alike(tree, left_fold(len(tree)), tail, ring)


def even_cutting(number, pieces, tail, ring):
    """The sizes of so many pieces, the greatest as small as possible, that agree with folding from the left."""
    _check_cutting(number, pieces, tail, ring)
    # One value stands in each piece; free pieces take more of them by whole rings, the first one the rest.
    more = number - pieces
    free = _count_free(pieces, tail)
    for most in range(1, number + 1):
        rings = min(more // ring, free * ((most - 1) // ring))
        first = 1 + more - rings * ring
        if first <= most:
            break
    shared = [1 + ring * many for many in _shared_out(rings, free)]
    return [first] + shared + [1] * (pieces - 1 - free)


def count_cuttings(number, pieces, tail, ring):
    """The number of cuttings into so many pieces that agree with folding from the left."""
    _check_cutting(number, pieces, tail, ring)
    # So many are the ways to share out at most these rings among the free pieces.
    free = _count_free(pieces, tail)
    return comb((number - pieces) // ring + free, free)


def _count_free(pieces, tail):
    """How many pieces behind the first one need not be single values."""
    singles = max(0, tail - 1)
    return max(0, pieces - 1 - singles)


def _shared_out(rings, free):
    """A list of so many numbers that come to `rings`, as equal as possible."""
    if free == 0:
        return []
    each, rest = divmod(rings, free)
    return [each + 1] * rest + [each] * (free - rest)


def _check_sizes(sizes):
    """Raise InvalidSizes if these are not the sizes of pieces of a row."""
    if not isinstance(sizes, list) or not sizes:
        raise InvalidSizes(None)
    total = 0
    for index, size in enumerate(sizes):
        if not is_whole(size) or size < 1 or total + size > MOST_LEAVES:
            raise InvalidSizes(index)
        total = total + size


def _check_cutting(number, pieces, tail, ring):
    """Raise the error of the first argument that is wrong for a cutting into pieces."""
    check_number(number, 1, MOST_LEAVES)
    check_number(pieces, 1, number)
    check_tail(tail)
    check_ring(ring)
