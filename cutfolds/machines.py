"""Machines that keep a row of parts and join them by the rule, in any order that can be finished."""

from cutfolds.checks import MOST_LEAVES, check_ring, check_tail, is_whole_within
from cutfolds.errors import InvalidMarks, InvalidValues, NoPart, NothingToUndo, Stuck, Unfinished, UnlikeMarks
from cutfolds.joinings import can_finish, joined, safe_joinings
from cutfolds.marks import fold_marks, mark


class Machine:
    """A row of parts, each with its result, its mark and its span of values."""

    def __init__(self, turn, join, values, *, tail, ring, marks=None):
        if not isinstance(values, list) or not 1 <= len(values) <= MOST_LEAVES:
            raise InvalidValues(None)
        check_tail(tail)
        check_ring(ring)
        row = fold_marks(len(values), tail, ring) if marks is None else marks
        if not isinstance(row, list) or len(row) != len(values):
            raise InvalidMarks(None)
        if not can_finish(row, tail, ring):
            raise Stuck("the row of marks cannot be finished")
        self._turn = turn
        self._put = join
        self._tail = tail
        self._ring = ring
        # These three lists are never changed: a deed puts new ones in their place, and the past keeps the old ones.
        self._results = list(values)
        self._marks = list(row)
        self._spans = [(number, number) for number in range(1, len(values) + 1)]
        self._past = []

    @property
    def results(self):
        """The list of the results of the parts."""
        return list(self._results)

    @property
    def marks(self):
        """The list of the marks of the parts."""
        return list(self._marks)

    @property
    def spans(self):
        """The list of tuples of the first and the last value of each part."""
        return list(self._spans)

    @property
    def result(self):
        """The result of the only part."""
        if len(self._results) > 1:
            raise Unfinished("more than one part is left")
        return self._results[0]

    def __len__(self):
        return len(self._results)

    def __getitem__(self, at):
        if not is_whole_within(at, 1, len(self._results)):
            raise NoPart(at)
        return self._results[at - 1]

    # Without this Python would ask for the parts from the number 0 on.
    def __iter__(self):
        raise TypeError("a machine is not iterated over")

    def safe_places(self):
        """The list of the places, ascending, of safe joinings."""
        return safe_joinings(self._marks, self._tail, self._ring)

    def join(self, place):
        """Join two neighbouring parts at a place."""
        marks = joined(self._marks, self._tail, self._ring, place)
        if not can_finish(marks, self._tail, self._ring):
            raise Stuck("behind this joining the row cannot be finished")
        left, right = self._results[place - 1:place + 1]
        result = self._put(self._turn(left), right)
        first, last = self._spans[place - 1][0], self._spans[place][1]
        self._go_on(
            self._results[:place - 1] + [result] + self._results[place + 1:],
            marks,
            self._spans[:place - 1] + [(first, last)] + self._spans[place + 1:],
        )

    def run(self):
        """Make safe joinings until one part is left, and yield the place of each one after it."""
        while len(self._results) > 1:
            place = self.safe_places()[0]
            self.join(place)
            yield place

    def finish(self):
        """Make safe joinings until one part is left, and return the result."""
        while len(self._results) > 1:
            self.join(self.safe_places()[0])
        return self._results[0]

    def __iadd__(self, other):
        if not isinstance(other, list) or len(self._results) + len(other) > MOST_LEAVES:
            raise InvalidValues(None)
        many = len(other)
        count = self._count_values()
        self._go_on(
            self._results + list(other),
            self._marks_ahead_of(many) + [mark(many - number, self._tail, self._ring) for number in range(1, many + 1)],
            self._spans + [(count + number, count + number) for number in range(1, many + 1)],
        )
        return self

    def followed_by(self, other):
        """A new machine with these parts and those of the other behind them."""
        if not isinstance(other, Machine) or self._tail != other._tail or self._ring != other._ring:
            raise UnlikeMarks("the tails or rings are not equal")
        both = Machine(
            self._turn, self._put, self._results + other._results, tail=self._tail, ring=self._ring,
            marks=self._marks_ahead_of(other._count_values()) + other._marks,
        )
        count = self._count_values()
        both._spans = self._spans + [(first + count, last + count) for first, last in other._spans]
        return both

    def undo(self):
        """Take back the last joining or addition."""
        if not self._past:
            raise NothingToUndo("nothing is left that can be taken back")
        self._results, self._marks, self._spans = self._past.pop()

    def _go_on(self, results, marks, spans):
        """Put these in the place of what is there, and keep that."""
        self._past.append((self._results, self._marks, self._spans))
        self._results = results
        self._marks = marks
        self._spans = spans

    def _marks_ahead_of(self, many):
        """The marks of the parts if so many values more stand behind them."""
        return [mark(given + many, self._tail, self._ring) for given in self._marks]

    def _count_values(self):
        """How many values there are in all parts."""
        return self._spans[-1][1]
