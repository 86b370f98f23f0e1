"""A tree among those that agree with it."""

from cutfolds.checks import check_ring, check_tail, check_tree, is_whole
from cutfolds.errors import NoStep, UnlikeMarks
from cutfolds.marks import marks_of
from cutfolds.trees import height


class Shape:
    """A tree among those that agree with it by a tail and a ring."""

    def __init__(self, tree, tail, ring):
        check_tree(tree)
        check_tail(tail)
        check_ring(ring)
        self._tree = list(tree)
        self._tail = tail
        self._ring = ring

    @property
    def tree(self):
        """The list of the left depths."""
        return list(self._tree)

    @property
    def marks(self):
        """The list of the marks of the leaves."""
        return marks_of(self._tree, self._tail, self._ring)

    def height(self):
        """The height of the tree."""
        return height(self._tree)

    def __len__(self):
        return len(self._tree)

    def __eq__(self, other):
        return (
            isinstance(other, Shape)
            and self._tree == other._tree
            and self._tail == other._tail
            and self._ring == other._ring
        )

    def __and__(self, other):
        return Shape(self._lesser_depths(other), self._tail, self._ring)

    def __or__(self, other):
        return Shape(self._greater_depths(other), self._tail, self._ring)

    def __iand__(self, other):
        self._tree = self._lesser_depths(other)
        return self

    def __ior__(self, other):
        self._tree = self._greater_depths(other)
        return self

    def __sub__(self, other):
        self._check_like(other)
        return sum([abs(one - two) for one, two in zip(self._tree, other._tree)]) // self._ring

    def is_below(self, other):
        """Whether no left depth is greater than the other's."""
        self._check_like(other)
        return all([one <= two for one, two in zip(self._tree, other._tree)])

    def way_to(self, other):
        """A list of as few steps as possible that lead, one after the other, to the other."""
        self._check_like(other)
        leaves = list(range(1, len(self._tree) + 1))
        rises = [(two - one) // self._ring for one, two in zip(self._tree, other._tree)]
        way = []
        # A leaf can go up as far as the one behind it lets, so the last ones go up first.
        for leaf in leaves[::-1]:
            way.extend([(leaf, True)] * max(0, rises[leaf - 1]))
        # It can go down as far as the one before it lets, so the first ones go down first.
        for leaf in leaves:
            way.extend([(leaf, False)] * max(0, -rises[leaf - 1]))
        return way

    def steps(self):
        """The list of all steps, ascending: tuples of a leaf and whether it goes up."""
        # The last leaf stays, as its left depth is 0 in every tree.
        return [
            (leaf, up) for leaf in range(1, len(self._tree)) for up in (False, True)
            if (self._can_go_up(leaf) if up else self._can_go_down(leaf))
        ]

    def after(self, leaf, up):
        """The new shape behind a step."""
        # 1 and True are equal, but not the same kind of thing.
        if not is_whole(leaf) or not isinstance(up, bool) or (leaf, up) not in self.steps():
            raise NoStep(leaf)
        tree = list(self._tree)
        tree[leaf - 1] += self._ring if up else -self._ring
        return Shape(tree, self._tail, self._ring)

    def _can_go_up(self, leaf):
        """Whether the left depth of a leaf, not the last one, can be greater by the ring."""
        depth = self._tree[leaf - 1]
        return depth >= self._tail and depth + self._ring <= self._tree[leaf] + 1

    def _can_go_down(self, leaf):
        """Whether the left depth of a leaf, not the last one, can be less by the ring."""
        before = self._tree[leaf - 2] if leaf > 1 else 1
        return self._tree[leaf - 1] - self._ring >= max(1, self._tail, before - 1)

    def _lesser_depths(self, other):
        """The lesser left depth at each leaf."""
        self._check_like(other)
        return [min(one, two) for one, two in zip(self._tree, other._tree)]

    def _greater_depths(self, other):
        """The greater left depth at each leaf."""
        self._check_like(other)
        return [max(one, two) for one, two in zip(self._tree, other._tree)]

    def _check_like(self, other):
        """Raise UnlikeMarks if the other is not a shape with the same marks, tail and ring."""
        if not isinstance(other, Shape) or not self._is_like(other):
            raise UnlikeMarks("the marks, tails or rings are not equal")

    def _is_like(self, other):
        """Whether the marks, tails and rings of two shapes are equal."""
        return self._tail == other._tail and self._ring == other._ring and self.marks == other.marks
