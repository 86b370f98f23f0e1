"""Rows of marks: where they may be joined, which joinings are safe, and the trees with these marks."""

from cutfolds.checks import check_marks, is_whole
from cutfolds.errors import InvalidPlaces, NoJoining, Stuck
from cutfolds.marks import next_mark


def can_finish(marks, tail, ring):
    """Whether a row of marks can be finished."""
    check_marks(marks, tail, ring)
    return _least_depths(marks, tail, ring) is not None


def joinings(marks, tail, ring):
    """The list of the places, ascending, at which the rule lets join."""
    check_marks(marks, tail, ring)
    return [
        place for place in range(1, len(marks))
        if marks[place - 1] == next_mark(marks[place], tail, ring)
    ]


def safe_joinings(marks, tail, ring):
    """The list of the places, ascending, of the joinings behind which the row can be finished."""
    return [
        place for place in joinings(marks, tail, ring)
        if can_finish(_marks_behind(marks, [place]), tail, ring)
    ]


def joined(marks, tail, ring, place):
    """The marks behind a joining at a place."""
    possible = joinings(marks, tail, ring)
    if not is_whole(place) or place not in possible:
        raise NoJoining(place)
    return _marks_behind(marks, [place])


def are_safe_at_once(marks, tail, ring, places):
    """Whether the row can be finished behind all joinings at some places."""
    _check_places(places, joinings(marks, tail, ring))
    return can_finish(_marks_behind(marks, places), tail, ring)


def least_tree(marks, tail, ring):
    """The tree with these marks whose left depths are the least at each leaf."""
    check_marks(marks, tail, ring)
    depths = _least_depths(marks, tail, ring)
    if depths is None:
        raise Stuck("no tree has these marks")
    return depths


def greatest_tree(marks, tail, ring):
    """The tree with these marks whose left depths are the greatest at each leaf."""
    depths = least_tree(marks, tail, ring)
    for index in range(len(depths) - 2, -1, -1):
        most = depths[index + 1] + 1
        # A left depth less than the tail is the only one with its mark.
        if depths[index] >= tail:
            depths[index] = most - (most - depths[index]) % ring
    return depths


def _least_depths(marks, tail, ring):
    """The left depths of the least tree with these marks; None if no tree has them."""
    depths = []
    # Ahead of the first leaf this asks for nothing.
    before = 1
    for mark in marks[:-1]:
        depth = _least_depth(mark, max(1, before - 1), tail, ring)
        if depth is None:
            return None
        depths.append(depth)
        before = depth
    if marks[-1] != 0 or before > 1:
        return None
    return depths + [0]


def _least_depth(mark, least, tail, ring):
    """The least left depth from `least` on that has a mark; None if there is none."""
    if mark >= least:
        return mark
    if mark < tail:
        return None
    return least + (mark - least) % ring


def _marks_behind(marks, places):
    """The marks behind joinings without a common part, each of which leaves the mark of the right one."""
    return [mark for place, mark in enumerate(marks, start=1) if place not in places]


def _check_places(places, possible):
    """Raise InvalidPlaces if these are not places of possible joinings without a common part."""
    if not isinstance(places, list):
        raise InvalidPlaces(None)
    least = 1
    for index, place in enumerate(places):
        if not is_whole(place) or place not in possible or place < least:
            raise InvalidPlaces(index)
        least = place + 2
