"""The errors of the package.

No message shows what was passed: that may be a thing of any kind, and of any size.
"""


class InvalidTree(ValueError):
    """Not a tree: `index` is that of the first wrong thing, or None."""

    def __init__(self, index):
        ValueError.__init__(self, f"not a tree (index {index})")
        self.index = index


class InvalidMarks(ValueError):
    """Not a row of marks: `index` is that of the first wrong thing, or None."""

    def __init__(self, index):
        ValueError.__init__(self, f"not a row of marks (index {index})")
        self.index = index


class InvalidSizes(ValueError):
    """Not the sizes of pieces: `index` is that of the first wrong thing, or None."""

    def __init__(self, index):
        ValueError.__init__(self, f"not the sizes of pieces (index {index})")
        self.index = index


class InvalidValues(ValueError):
    """Not the values of a fold: `index` is that of the first wrong thing, or None."""

    def __init__(self, index):
        ValueError.__init__(self, f"not the values of such a fold (index {index})")
        self.index = index


class InvalidPlaces(ValueError):
    """Not places of joinings: `index` is that of the first wrong thing, or None."""

    def __init__(self, index):
        ValueError.__init__(self, f"not places of such joinings (index {index})")
        self.index = index


class InvalidSigns(ValueError):
    """Not a row of signs: `index` is that of the first wrong thing, or None."""

    def __init__(self, index):
        ValueError.__init__(self, f"not a row of signs (index {index})")
        self.index = index


class InvalidNumber(ValueError):
    """`number` is not a whole number, or not one within the bounds."""

    def __init__(self, number):
        ValueError.__init__(self, "not a whole number within the bounds")
        self.number = number


class InvalidFactor(ValueError):
    """`factor` is not a whole number."""

    def __init__(self, factor):
        ValueError.__init__(self, "the factor is not a whole number")
        self.factor = factor


class InvalidModulus(ValueError):
    """`modulus` is not a whole number from 1 to 10,000."""

    def __init__(self, modulus):
        ValueError.__init__(self, "the modulus is not a whole number from 1 to 10,000")
        self.modulus = modulus


class InvalidLetters(ValueError):
    """Not a dict of letters: `letter` is the least key with a wrong value, or None."""

    def __init__(self, letter):
        ValueError.__init__(self, "not a dict that turns 1 to 26 letters into letters of it")
        self.letter = letter


class InvalidText(ValueError):
    """Not the text of a tree: `place` is where it goes wrong, or None."""

    def __init__(self, place):
        ValueError.__init__(self, f"not the text of a tree (place {place})")
        self.place = place


class InvalidTail(ValueError):
    """`tail` is not a whole number from 0 to 40."""

    def __init__(self, tail):
        ValueError.__init__(self, "the tail is not a whole number from 0 to 40")
        self.tail = tail


class InvalidRing(ValueError):
    """`ring` is not a whole number from 1 to 10,000."""

    def __init__(self, ring):
        ValueError.__init__(self, "the ring is not a whole number from 1 to 10,000")
        self.ring = ring


class UnequalLeaves(ValueError):
    """Two trees have `first` and `second` leaves, and not equally many."""

    def __init__(self, first, second):
        ValueError.__init__(self, f"trees of {first} and of {second} leaves")
        self.first = first
        self.second = second


class UnlikeMarks(ValueError):
    """The marks, tails or rings of two things are not equal."""


class Stuck(ValueError):
    """A row cannot be finished."""


class Unfinished(ValueError):
    """More than one part is left."""


class NoJoining(LookupError):
    """The rule does not let join at `place`."""

    def __init__(self, place):
        LookupError.__init__(self, "the rule does not let join at this place")
        self.place = place


class NoPart(LookupError):
    """No part has the number `place`."""

    def __init__(self, place):
        LookupError.__init__(self, "there is no part with this number")
        self.place = place


class NoStep(LookupError):
    """There is no such step at `leaf`."""

    def __init__(self, leaf):
        LookupError.__init__(self, "there is no such step at this leaf")
        self.leaf = leaf


class NothingToUndo(LookupError):
    """No joining or addition is left that can be taken back."""
