"""A plain working out of [19], with no regard to time, with which machines are compared."""

from tests import support

KNOWN = {}


def can_be_finished(row, tail, ring):
    """Whether the stretches of [15] count anything."""
    key = (tuple(row), tail, ring)
    if key not in KNOWN:
        KNOWN[key] = support.alike_by_stretches(row, tail, ring) > 0
    return KNOWN[key]


class PlainMachine:
    """A list of parts, each with its result, its mark, and the list of the numbers of its values."""

    def __init__(self, turn, join, values, tail, ring, marks=None):
        self.turn, self.put, self.tail, self.ring = turn, join, tail, ring
        self.following = support.next_marks(tail, ring)
        row = self.fold_marks(len(values)) if marks is None else marks
        self.parts = [(value, mark, [at + 1]) for at, (value, mark) in enumerate(zip(values, row))]
        self.past = []

    def fold_marks(self, many):
        return support.marks_of_depths(list(range(many - 1, -1, -1)), self.tail, self.ring)

    def marks(self):
        return [mark for _, mark, _ in self.parts]

    def results(self):
        return [result for result, _, _ in self.parts]

    def places(self):
        return support.places_by_rule(self.marks(), self.following)

    def safe_places(self):
        return [
            place for place in self.places()
            if can_be_finished(support.row_behind(self.marks(), place), self.tail, self.ring)
        ]

    def many_values(self):
        return sum(len(numbers) for _, _, numbers in self.parts)

    def later(self, mark, many):
        """What a mark becomes if so many values come behind."""
        for _ in range(many):
            mark = self.following[mark]
        return mark

    def join(self, place):
        self.past.append(list(self.parts))
        (left, _, first), (right, mark, second) = self.parts[place - 1:place + 1]
        self.parts[place - 1:place + 1] = [(self.put(self.turn(left), right), mark, first + second)]

    def add(self, values):
        self.past.append(list(self.parts))
        many = self.many_values()
        moved = [(result, self.later(mark, len(values)), numbers) for result, mark, numbers in self.parts]
        marks = self.fold_marks(len(values))
        self.parts = moved + [(value, marks[at], [many + at + 1]) for at, value in enumerate(values)]

    def undo(self):
        self.parts = self.past.pop()

    def row_with(self, other):
        """The marks of the parts of this machine and of the other one behind them."""
        return [self.later(mark, other.many_values()) for mark in self.marks()] + other.marks()

    def followed_by(self, other):
        both = PlainMachine(
            self.turn, self.put, self.results() + other.results(), self.tail, self.ring, self.row_with(other)
        )
        many = self.many_values()
        spans = [numbers for _, _, numbers in self.parts]
        spans += [[number + many for number in numbers] for _, _, numbers in other.parts]
        both.parts = [(result, mark, numbers) for (result, mark, _), numbers in zip(both.parts, spans)]
        return both

    def shown(self):
        """What a machine must show; the result of the only part is put into a list."""
        return {
            "results": self.results(),
            "marks": self.marks(),
            "spans": [(numbers[0], numbers[-1]) for _, _, numbers in self.parts],
            "len": len(self.parts),
            "parts": self.results(),
            "safe": self.safe_places(),
            "result": self.results() if len(self.parts) == 1 else [],
        }
