"""cutfolds/machines.py: [19], with [4], [5], [7], [10], [11], [12], [16], and what [2] says of objects."""

import itertools
import random
import types
import unittest

from cutfolds.errors import (
    InvalidMarks, InvalidRing, InvalidTail, InvalidValues, NoJoining, NoPart, NothingToUndo, Stuck, Unfinished,
    UnlikeMarks,
)
from cutfolds.joinings import joinings, safe_joinings
from cutfolds.machines import Machine
from cutfolds.marks import fold_marks
from tests import support
from tests.plain_machine import PlainMachine, can_be_finished
from tests.support import Promises, counting_turn, depths_of, numbered, put_behind, told_result

MANY = 10 ** 25 - 1
PAIRS = [(0, 1), (0, 2), (0, 3), (1, 1), (1, 2), (2, 1), (2, 2), (2, 3), (3, 1), (4, 3)]
LARGE_PAIRS = PAIRS + [(12, 7), (0, 38), (0, 39), (0, 40), (0, 10000), (1, 10000), (40, 1), (40, 2), (40, 10000)]
WRONG_TAILS = [-1, 41, MANY, -MANY] + support.no_numbers()
WRONG_RINGS = [0, -1, 10001, MANY, -MANY] + support.no_numbers()
NO_NUMBERS_OF_PARTS = [0, -1, -2, -5, MANY, -MANY] + support.no_numbers() + [
    slice(None), slice(0, 1), slice(1, 2, 1), "place", ..., NotImplemented,
]
NO_LISTS = support.no_lists() + [(1,), (1, 2), "ab", b"ab", {1: 2}, {1, 2}, range(2), iter([1, 2])]


def machine_of(values, tail=0, ring=2, marks=None):
    return Machine(counting_turn(tail, ring), put_behind, values, tail=tail, ring=ring, marks=marks)


def swapping(text, **named):
    """A machine whose values are letters, as in the interface."""
    return Machine(
        lambda one: one.swapcase(), lambda one, two: one + two, list(text), **{"tail": 0, "ring": 2, **named}
    )


def shown(machine):
    """All that a machine shows; the result of the only part is put into a list."""
    try:
        result = [machine.result]
    except Unfinished:
        result = []
    return {
        "results": machine.results,
        "marks": machine.marks,
        "spans": machine.spans,
        "len": len(machine),
        "parts": [machine[place] for place in range(1, len(machine) + 1)],
        "safe": machine.safe_places(),
        "result": result,
    }


def small_rows(most=6):
    """Rows that can be finished, with a tree of each one."""
    for tail, ring in PAIRS:
        for leaves in range(1, most + 1):
            for row, trees in support.trees_by_marks(leaves, tail, ring).items():
                yield list(row), trees[0], tail, ring


def large_rows():
    for tail, ring in LARGE_PAIRS:
        for shape in support.large_shapes()[::2]:
            tree = depths_of(shape)
            yield support.marks_of_depths(tree, tail, ring), tree, tail, ring


class Examples(Promises):

    def test_of_the_interface(self):
        values = ["a", "b", "c", "d"]
        machine = Machine(lambda text: text.swapcase(), lambda one, two: one + two, values, tail=0, ring=2)
        self.assert_same(
            (machine.marks, machine.safe_places(), machine.join(1), machine[1], machine.safe_places()),
            ([1, 0, 1, 0], [1, 2], None, "Ab", [1]),
        )
        machine += ["e"]
        self.assert_same(
            (machine.marks, machine.spans, machine.finish()),
            ([1, 0, 1, 0], [(1, 2), (3, 3), (4, 4), (5, 5)], "aBcDe"),
        )

    def test_of_the_interface_one_behind_the_other(self):
        one = Machine(lambda text: text.swapcase(), lambda one, two: one + two, ["a", "b"], tail=0, ring=2)
        other = Machine(lambda text: text.swapcase(), lambda one, two: one + two, ["c", "d", "e"], tail=0, ring=2)
        other.join(1)
        both = one.followed_by(other)
        self.assert_same(
            (both.marks, both.spans, both.finish()), ([0, 1, 1, 0], [(1, 1), (2, 2), (3, 4), (5, 5)], "aBcDe")
        )


class Making(Promises):

    def test_the_marks_of_a_fold_from_the_left(self):
        for tail, ring in LARGE_PAIRS:
            for many in (1, 2, 3, 4, 7, 39, 40):
                values = numbered(1, many)
                for machine in (machine_of(values, tail, ring), machine_of(values, tail, ring, None)):
                    self.assert_same(machine.marks, fold_marks(many, tail, ring))
                    self.assert_same(machine.results, values)
                    self.assert_same(machine.spans, [(number, number) for number in range(1, many + 1)])
                    self.assert_same(len(machine), many)

    def test_given_marks(self):
        for row, _, tail, ring in itertools.chain(small_rows(5), large_rows()):
            values = numbered(1, len(row))
            machine = machine_of(values, tail, ring, row)
            self.assert_same((machine.marks, machine.results), (row, values))
            self.assert_same(machine.safe_places(), safe_joinings(row, tail, ring))

    def test_what_it_shows(self):
        for row, _, tail, ring in small_rows(6):
            values = numbered(1, len(row))
            plain = PlainMachine(counting_turn(tail, ring), put_behind, values, tail, ring, row)
            self.assert_same(shown(machine_of(values, tail, ring, row)), plain.shown())

    def test_by_position_and_by_name(self):
        turn, join, values = counting_turn(0, 2), put_behind, numbered(1, 5)
        row = [0, 1, 0, 1, 0]
        made = [
            Machine(turn, join, values, tail=0, ring=2), Machine(turn, join, values, ring=2, tail=0),
            Machine(turn, join, values=values, tail=0, ring=2), Machine(turn, join=join, values=values, tail=0, ring=2),
            Machine(turn=turn, join=join, values=values, tail=0, ring=2),
            Machine(ring=2, values=values, tail=0, join=join, turn=turn),
            Machine(turn, join, values, tail=0, ring=2, marks=None),
            Machine(turn, join, values, tail=0, ring=2, marks=row),
            Machine(marks=row, ring=2, tail=0, values=values, join=join, turn=turn),
        ]
        told = shown(made[0])
        for machine in made:
            self.assert_same(shown(machine), told)
            self.assertIsNone(machine.join(place=3))
            self.assert_same(machine.spans, [(1, 1), (2, 2), (3, 4), (5, 5)])
            both = machine.followed_by(other=machine_of(numbered(6, 2)))
            self.assert_same(both.spans[4:], [(6, 6), (7, 7)])
            self.assert_same(machine.finish(), told_result([4, 3, 2, 1, 0], 0, 2))

    def test_values_of_any_kind(self):
        things = [None, True, 0, "", [], {}, object(), support.Unlike(), len, int, 1.5, float("nan"), Machine, [[]]]
        machine = machine_of(things)
        for found in (machine.results, [machine[place] for place in range(1, len(things) + 1)]):
            self.assertTrue(all(one is two for one, two in zip(found, things)))
        machine += things
        self.assertTrue(all(one is two for one, two in zip(machine.results, things + things)))
        self.assertIs(machine_of([things]).result, things)
        self.assertIs(machine_of([None]).result, None)

    def test_a_join_hands_on_the_very_things(self):
        one, two, turned, put = object(), support.Unlike(), support.Unlike(), object()
        calls = []
        machine = Machine(
            lambda thing: calls.append([thing]) or turned, lambda left, right: calls.append([left, right]) or put,
            [one, two], tail=0, ring=1,
        )
        self.assertIs(machine.finish(), put)
        self.assertEqual([len(call) for call in calls], [1, 2])
        self.assertTrue(calls[0][0] is one and calls[1][0] is turned and calls[1][1] is two)

    def test_it_keeps_copies_of_its_lists(self):
        values, row = numbered(1, 5), [0, 1, 0, 1, 0]
        machine = machine_of(values, marks=row)
        before = shown(machine)
        for given in (values, row):
            given[0] = 7
            self.assert_same(shown(machine), before)
            given.clear()
            self.assert_same(shown(machine), before)
        self.assert_same(machine.finish(), told_result([4, 3, 2, 1, 0], 0, 2))
        self.assert_same((values, row), ([], []))

    def test_its_lists_are_left_as_they_were(self):
        values, row, more = numbered(1, 5), [0, 1, 0, 1, 0], numbered(6, 3)
        copies = list(values), list(row), list(more)
        machine = machine_of(values, marks=row)
        machine.join(2)
        machine += more
        machine.finish()
        machine.undo()
        self.assert_same((values, row, more), copies)

    def test_lists_that_are_read_are_new(self):
        machine = machine_of(numbered(1, 6))
        for deed in (lambda: None, lambda: machine.join(1), machine.finish, machine.undo):
            deed()
            before = shown(machine)
            for read in (
                lambda: machine.results, lambda: machine.marks, lambda: machine.spans, machine.safe_places,
            ):
                first, second = read(), read()
                self.assertIs(type(first), list)
                self.assertIsNot(first, second)
                first.append(7)
                first.reverse()
                self.assert_same(read(), second)
                self.assert_same(shown(machine), before)

    def test_spans_are_tuples(self):
        machine = machine_of(numbered(1, 6))
        machine.join(1)
        machine += numbered(7, 1)
        self.assertEqual([type(span) for span in machine.spans], [tuple] * 6)

    def test_two_of_the_same_lists_are_two(self):
        values, row = numbered(1, 5), [0, 1, 0, 1, 0]
        one, two = machine_of(values, marks=row), machine_of(values, marks=row)
        before = shown(two)
        one.join(1)
        one += numbered(6, 2)
        self.assert_same(shown(two), before)


class WrongMaking(Promises):

    def make(self, **named):
        right = {"turn": None, "join": None, "values": [1, 2, 3], "tail": 0, "ring": 2}
        return Machine(**{**right, **named})

    def test_wrong_values(self):
        for thing in NO_LISTS + [[], [0] * 41, [None] * 41, [0] * 5000]:
            self.assert_error(InvalidValues, {"index": None}, self.make, values=thing)
            self.assert_error(InvalidValues, {"index": None}, self.make, values=thing, tail=None, ring=0, marks=7)
            self.assert_error(InvalidValues, {"index": None}, self.make, values=thing, marks=[0] * 41)

    def test_wrong_tails_and_rings(self):
        for thing in WRONG_TAILS:
            self.assert_error(InvalidTail, {"tail": thing}, self.make, tail=thing)
            self.assert_error(InvalidTail, {"tail": thing}, self.make, tail=thing, ring=0, marks=())
        for thing in WRONG_RINGS:
            self.assert_error(InvalidRing, {"ring": thing}, self.make, ring=thing)
            self.assert_error(InvalidRing, {"ring": thing}, self.make, ring=thing, marks=())

    def test_marks_that_are_no_list_of_as_many_things(self):
        things = [thing for thing in NO_LISTS if thing is not None]
        for thing in things + [[], [0], [1, 0], [1, 0, 1, 0], [0] * 41, [None] * 4, [None, 7], (0, 1, 0), ["0"]]:
            self.assert_error(InvalidMarks, {"index": None}, self.make, marks=thing)
        self.assert_error(InvalidMarks, {"index": None}, self.make, values=[1], marks=[])
        self.assert_error(InvalidMarks, {"index": None}, self.make, values=[1] * 40, marks=[0] * 39)
        self.assert_error(InvalidMarks, {"index": None}, self.make, values=[1] * 40, marks=[0] * 41)

    def test_one_wrong_mark_and_a_second_behind_it(self):
        for tail, ring, row in ((0, 2, [0, 1, 0]), (0, 1, [0] * 40), (3, 2, [4, 3, 2, 1, 0]), (0, 2, [0])):
            things = [-1, -2, tail + ring, tail + ring + 1, MANY, -MANY] + support.no_numbers()
            for wrong, index in support.with_one_wrong(row, things):
                named = {"values": [None] * len(row), "tail": tail, "ring": ring, "marks": wrong}
                self.assert_error(InvalidMarks, {"index": index}, self.make, **named)

    def test_rows_that_cannot_be_finished(self):
        for tail, ring in ((0, 1), (0, 2), (0, 3), (1, 1), (1, 2), (2, 1), (2, 2)):
            for size in range(1, 5):
                for row in support.all_rows(size, tail, ring):
                    named = {"values": [None] * size, "tail": tail, "ring": ring, "marks": row}
                    if can_be_finished(row, tail, ring):
                        self.assert_same(self.make(**named).marks, row)
                    else:
                        self.assert_error(Stuck, {}, self.make, **named)
        for row in ([0] * 40, [1] * 40, [0] * 39 + [1]):
            self.assert_error(Stuck, {}, self.make, values=[None] * 40, marks=row)

    def test_wrong_calls_leave_lists_as_they_were(self):
        for values, row in (([1, 2, 3], [0, 0, 0]), ([1, 2, 3], [0, 1, 2]), ([1, 2], [0]), ([], [0])):
            copies = list(values), list(row)
            with self.assertRaises(ValueError):
                self.make(values=values, marks=row)
            self.assert_same((values, row), copies)


class Parts(Promises):

    def test_numbers_of_parts(self):
        machine = swapping("abcdef")
        self.assert_same([machine[place] for place in range(1, 7)], list("abcdef"))
        machine.join(2)
        self.assert_same([machine[place] for place in range(1, 6)], ["a", "Bc", "d", "e", "f"])
        self.assert_error(NoPart, {"place": 6}, lambda: machine[6])
        machine.undo()
        self.assertEqual(machine[6], "f")

    def test_no_part(self):
        for machine in (swapping("a"), swapping("abc"), swapping("ab" * 20)):
            for thing in NO_NUMBERS_OF_PARTS + [len(machine) + 1, len(machine) + 2, 41, 2000]:
                before = shown(machine)
                self.assert_error(NoPart, {"place": thing}, lambda: machine[thing])
                self.assert_same(shown(machine), before)

    def test_only_part(self):
        self.assertEqual(swapping("a").result, "a")
        machine = swapping("abc")
        for _ in range(2):
            self.assert_error(Unfinished, {}, lambda: machine.result)
            machine.join(1)
        self.assertEqual(machine.result, "aBc")
        machine += ["d"]
        self.assert_error(Unfinished, {}, lambda: machine.result)
        machine.undo()
        self.assertEqual(machine.result, "aBc")
        machine.undo()
        self.assert_error(Unfinished, {}, lambda: machine.result)

    def test_an_only_part_that_is_nothing(self):
        self.assertIsNone(machine_of([None]).result)
        self.assert_same((len(machine_of([None])), machine_of([None])[1]), (1, None))


class Joining(Promises):

    def test_at_every_place_of_small_rows(self):
        for row, _, tail, ring in small_rows(5):
            for place in range(-1, len(row) + 3):
                self.check_join(row, tail, ring, place)

    def test_at_every_place_of_large_rows(self):
        for row, _, tail, ring in list(large_rows())[::5]:
            for place in range(0, len(row) + 2):
                self.check_join(row, tail, ring, place)

    def check_join(self, row, tail, ring, place):
        values = numbered(1, len(row))
        machine = machine_of(values, tail, ring, row)
        before = shown(machine)
        if place not in joinings(row, tail, ring):
            self.assert_error(NoJoining, {"place": place}, machine.join, place)
            self.assert_same(shown(machine), before)
        elif place not in safe_joinings(row, tail, ring):
            self.assert_error(Stuck, {}, machine.join, place)
            self.assert_same(shown(machine), before)
        else:
            self.assertIsNone(machine.join(place))
            left, right = values[place - 1:place + 1]
            put = [counting_turn(tail, ring)(left) + right]
            self.assert_same(machine.results, values[:place - 1] + put + values[place + 1:])
            self.assert_same(machine.marks, support.row_behind(row, place))
            spans = [(number, number) for number in range(1, len(row) + 1)]
            self.assert_same(machine.spans, spans[:place - 1] + [(place, place + 1)] + spans[place + 1:])

    def test_things_that_are_no_place(self):
        for machine in (swapping("a"), swapping("abcde"), swapping("ab" * 20)):
            before = shown(machine)
            for thing in NO_NUMBERS_OF_PARTS + [len(machine), len(machine) + 1, 41]:
                self.assert_error(NoJoining, {"place": thing}, machine.join, thing)
            self.assert_same(shown(machine), before)
            self.assert_error(NothingToUndo, {}, machine.undo)

    def test_the_rule_comes_ahead_of_what_is_safe(self):
        machine = swapping("abcde", marks=[0, 1, 1, 1, 0])
        self.assert_same((joinings(machine.marks, 0, 2), machine.safe_places()), ([1, 4], [1, 4]))
        machine.join(1)
        self.assert_same((machine.marks, machine.safe_places()), ([1, 1, 1, 0], [3]))
        for place in (1, 2):
            self.assert_error(NoJoining, {"place": place}, machine.join, place)
        machine = swapping("abcd")
        self.assert_error(Stuck, {}, machine.join, 3)
        machine = swapping("abc")
        self.assert_same(machine.safe_places(), [1])
        self.assert_error(Stuck, {}, machine.join, 2)
        self.assert_error(NoJoining, {"place": 3}, machine.join, 3)

    def test_safe_places_of_folds_from_the_left(self):
        for tail, ring in LARGE_PAIRS:
            reach = ring + max(tail, 1)
            for many in (2, 3, 4, 10, 39, 40):
                told = [1] + list(range(2, many + 2 - reach))
                self.assert_same(machine_of(numbered(1, many), tail, ring).safe_places(), told)

    def test_safe_one_by_one_and_not_all_at_once(self):
        row = [0, 2, 1, 2, 1, 0, 2, 1, 0]
        machine = machine_of(numbered(1, 9), 0, 3, row)
        self.assertTrue({2, 5} <= set(machine.safe_places()))
        machine.join(5)
        self.assert_error(Stuck, {}, machine.join, 2)
        machine.undo()
        machine.join(2)
        self.assert_error(Stuck, {}, machine.join, 4)
        self.assertEqual(len(machine.finish()), 9)


class Calls(Promises):
    """When `turn` and `join` are called, and with what."""

    def setUp(self):
        self.calls = []

    def recording(self, values, tail=0, ring=2, marks=None):
        plain = counting_turn(tail, ring)

        def turn(one):
            self.calls.append(("turn", one))
            return plain(one)

        def join(one, two):
            self.calls.append(("join", one, two))
            return one + two

        return Machine(turn, join, values, tail=tail, ring=ring, marks=marks)

    def test_once_each_for_each_joining(self):
        for tail, ring in PAIRS:
            machine = self.recording(numbered(1, 9), tail, ring)
            plain = counting_turn(tail, ring)
            for choose in (0, -1) * 4:
                place = machine.safe_places()[choose]
                left, right = machine.results[place - 1:place + 1]
                self.calls.clear()
                machine.join(place)
                self.assert_same(self.calls, [("turn", left), ("join", plain(left), right)])

    def test_not_by_looks_nor_at_the_making(self):
        machine = self.recording(numbered(1, 7))
        other = self.recording(numbered(8, 5))
        shown(machine)
        machine += numbered(13, 2)
        machine += []
        both = machine.followed_by(other)
        machine.followed_by(machine)
        shown(both)
        machine.undo()
        machine.run()
        for call in (lambda: machine.join(0), lambda: machine.join(9), lambda: machine[0], lambda: machine.result):
            with self.assertRaises((ValueError, LookupError)):
                call()
        self.assertEqual(self.calls, [])

    def test_not_by_joinings_that_are_refused(self):
        machine = self.recording(numbered(1, 5))
        for place in (4, 5, 0, None, True):
            with self.assertRaises((ValueError, LookupError)):
                machine.join(place)
        self.assertEqual(self.calls, [])

    def test_not_by_undo(self):
        machine = self.recording(numbered(1, 7))
        machine.finish()
        self.calls.clear()
        for _ in range(6):
            machine.undo()
        self.assertEqual(self.calls, [])

    def test_by_run_and_finish(self):
        for tail, ring in PAIRS:
            machine = self.recording(numbered(1, 8), tail, ring)
            steps = machine.run()
            self.assertEqual(self.calls, [])
            for many in (1, 2, 3):
                next(steps)
                self.assertEqual([name for name, *_ in self.calls], ["turn", "join"] * many)
            machine.finish()
            self.assertEqual([name for name, *_ in self.calls], ["turn", "join"] * 7)
            self.check_calls(counting_turn(tail, ring))
            self.calls.clear()

    def check_calls(self, plain):
        """That what is turned is joined, in pairs of calls."""
        for turned, put in zip(self.calls[::2], self.calls[1::2]):
            self.assert_same(plain(turned[1]), put[1])

    def test_of_the_first_by_one_behind_the_other(self):
        one = self.recording(numbered(1, 2))
        other = machine_of(numbered(3, 2))
        both = one.followed_by(other)
        both.finish()
        self.assertEqual([name for name, *_ in self.calls], ["turn", "join"] * 3)
        self.calls.clear()
        other.followed_by(one).finish()
        self.assertEqual(self.calls, [])


class Results(Promises):

    def all_orders(self, machine, told):
        """Goes through all orders of safe joinings, and takes each joining back."""
        places = machine.safe_places()
        if not places:
            self.assert_same((machine.result, machine.marks), (told, [0]))
            return
        for place in places:
            before = shown(machine)
            machine.join(place)
            self.all_orders(machine, told)
            self.assertIsNone(machine.undo())
            self.assert_same(shown(machine), before)

    def test_all_orders_lead_to_the_result_of_the_told_tree(self):
        for row, tree, tail, ring in small_rows(5):
            machine = machine_of(numbered(1, len(row)), tail, ring, row)
            self.all_orders(machine, told_result(tree, tail, ring))

    def test_all_orders_of_folds_from_the_left(self):
        for tail, ring in PAIRS:
            machine = machine_of(numbered(1, 6), tail, ring)
            self.all_orders(machine, told_result([5, 4, 3, 2, 1, 0], tail, ring))

    def test_drawn_orders_of_large_rows(self):
        source = random.Random(4)
        for row, tree, tail, ring in large_rows():
            machine = machine_of(numbered(1, len(row)), tail, ring, row)
            while len(machine) > 1:
                machine.join(source.choice(machine.safe_places()))
            self.assert_same(machine.result, told_result(tree, tail, ring))

    def test_finish(self):
        for row, tree, tail, ring in itertools.chain(small_rows(), large_rows()):
            machine = machine_of(numbered(1, len(row)), tail, ring, row)
            told = told_result(tree, tail, ring)
            self.assert_same((machine.finish(), machine.result, machine[1]), (told, told, told))
            self.assert_same((machine.marks, machine.spans, len(machine)), ([0], [(1, len(row))], 1))
            self.assert_same(machine.finish(), told)

    def test_numbers(self):
        # Three times the first and the second one, modulo 7: a tail of 0 and a ring of 6.
        source = random.Random(7)
        for many in (1, 2, 6, 7, 8, 40):
            values = [source.randrange(7) for _ in range(many)]
            machine = Machine(lambda one: one * 3 % 7, lambda one, two: (one + two) % 7, values, tail=0, ring=6)
            told = 0
            for value in values:
                told = (told * 3 + value) % 7
            while len(machine) > 1:
                machine.join(source.choice(machine.safe_places()))
            self.assert_same(machine.result, told)

    def test_values_that_come_while_others_are_joined(self):
        source = random.Random(5)
        for tail, ring in LARGE_PAIRS:
            machine, many = machine_of(numbered(1, 1), tail, ring), 1
            while many < 60:
                more = min(source.randint(0, 9), 40 - len(machine))
                machine += numbered(many + 1, more)
                many += more
                for _ in range(source.randint(0, 9)):
                    if places := machine.safe_places():
                        machine.join(source.choice(places))
            self.assert_same(machine.finish(), told_result(list(range(many - 1, -1, -1)), tail, ring))

    def test_values_behind_any_tree(self):
        # All left depths go on by one for each new value.
        for row, tree, tail, ring in small_rows(5):
            machine = machine_of(numbered(1, len(row)), tail, ring, row)
            if len(row) > 2:
                machine.join(machine.safe_places()[-1])
            machine += numbered(len(row) + 1, 3)
            whole = [depth + 3 for depth in tree] + [2, 1, 0]
            self.assert_same(machine.finish(), told_result(whole, tail, ring))

    def test_parts_show_their_own_folds_with_a_tail_of_at_most_one(self):
        source = random.Random(6)
        for tail, ring in ((0, 1), (0, 2), (0, 3), (0, 7), (1, 1), (1, 2), (1, 3), (0, 10000), (1, 10000)):
            machine = machine_of(numbered(1, 5), tail, ring)
            for _ in range(120):
                machine = self.some_deed(source, machine, tail, ring)
                self.check_parts(machine, tail, ring)

    def some_deed(self, source, machine, tail, ring):
        deed = source.randrange(6)
        many = machine.spans[-1][1]
        if deed <= 2 and machine.safe_places():
            machine.join(source.choice(machine.safe_places()))
        elif deed == 3:
            machine += numbered(many + 1, min(source.randint(0, 4), 40 - len(machine)))
        elif deed == 4:
            try:
                machine.undo()
            except NothingToUndo:
                pass
        elif deed == 5 and many < 60:
            other = machine_of(numbered(many + 1, source.randint(1, 6)), tail, ring)
            if source.random() < 0.5 and other.safe_places():
                other.join(source.choice(other.safe_places()))
            try:
                return machine.followed_by(other)
            except (Stuck, InvalidValues):
                pass
        return machine

    def check_parts(self, machine, tail, ring):
        for result, (first, last) in zip(machine.results, machine.spans):
            tree = list(range(last - first, -1, -1))
            self.assert_same(result, told_result(tree, tail, ring, first))

    def test_parts_may_show_something_else_with_a_greater_tail(self):
        one, two = machine_of(numbered(1, 8), 2, 1), machine_of(numbered(1, 8), 2, 1)
        for place in (1, 1):
            one.join(place)
        for place in (2, 1):
            two.join(place)
        self.assertEqual(one.spans[0], two.spans[0])
        self.assertNotEqual(one[1], two[1])
        self.assert_same(one.finish(), two.finish())


class Running(Promises):

    def test_it_is_a_generator(self):
        machine = swapping("abc")
        self.assertIsInstance(machine.run(), types.GeneratorType)
        self.assertIsNot(machine.run(), machine.run())

    def test_nothing_happens_before_it_is_asked(self):
        machine = swapping("abcdef")
        before = shown(machine)
        machine.run()
        steps = machine.run()
        self.assert_same(shown(machine), before)
        self.assert_error(NothingToUndo, {}, machine.undo)
        place = next(steps)
        self.assertIn(place, before["safe"])
        self.assert_same(len(machine), 5)

    def test_each_step_is_a_safe_joining(self):
        for row, tree, tail, ring in itertools.chain(small_rows(), list(large_rows())[::3]):
            machine = machine_of(numbered(1, len(row)), tail, ring, row)
            plain = PlainMachine(counting_turn(tail, ring), put_behind, numbered(1, len(row)), tail, ring, row)
            safe, many = machine.safe_places(), 0
            for place in machine.run():
                self.assertIs(type(place), int)
                self.assertIn(place, safe)
                plain.join(place)
                self.assert_same((machine.results, machine.marks), (plain.results(), plain.marks()))
                safe, many = machine.safe_places(), many + 1
            self.assertEqual(many, len(row) - 1)
            self.assert_same(machine.result, told_result(tree, tail, ring))

    def test_one_part_has_no_steps(self):
        self.assertEqual(list(swapping("a").run()), [])
        machine = swapping("abc")
        machine.finish()
        self.assertEqual(list(machine.run()), [])

    def test_steps_are_taken_back_one_by_one(self):
        machine = swapping("abcdef")
        looks = [shown(machine)]
        for _ in machine.run():
            looks.append(shown(machine))
        for look in looks[::-1]:
            self.assert_same(shown(machine), look)
            if look is not looks[0]:
                machine.undo()
        self.assert_error(NothingToUndo, {}, machine.undo)

    def test_it_goes_on_from_the_parts_that_are_there(self):
        machine = swapping("abcdef")
        steps = machine.run()
        next(steps)
        machine.undo()
        self.assert_same(len(machine), 6)
        next(steps)
        self.assert_same(len(machine), 5)
        machine += ["g", "h"]
        next(steps)
        self.assert_same(len(machine), 6)
        machine.join(machine.safe_places()[-1])
        machine += []
        machine.undo()
        self.assertEqual(len(list(steps)), 4)
        self.assert_same(machine.result, swapped_fold("abcdefgh"))

    def test_values_that_come_behind_its_last_step(self):
        machine = swapping("ab")
        steps = machine.run()
        self.assertEqual(next(steps), 1)
        self.assertEqual(len(machine), 1)
        machine += ["c", "d"]
        self.assertEqual(len(list(steps)), 2)
        self.assert_same(machine.result, swapped_fold("abcd"))

    def test_when_it_has_ended_it_stays_so(self):
        machine = swapping("ab")
        steps = machine.run()
        self.assertEqual(list(steps), [1])
        machine.undo()
        self.assertEqual(list(steps), [])
        self.assert_same(len(machine), 2)
        self.assertEqual(list(machine.run()), [1])

    def test_it_ends_if_another_deed_finishes_the_row(self):
        machine = swapping("abcde")
        steps = machine.run()
        next(steps)
        machine.finish()
        self.assertEqual(list(steps), [])

    def test_two_at_once(self):
        machine = swapping("abcdefgh")
        one, two = machine.run(), machine.run()
        for steps in (one, two, two, one):
            next(steps)
        self.assert_same(len(machine), 4)
        self.assertEqual(len(list(one)), 3)
        self.assertEqual(list(two), [])
        self.assert_same(machine.result, swapped_fold("abcdefgh"))

    def test_one_that_is_dropped_does_no_harm(self):
        machine = swapping("abcdef")
        steps = machine.run()
        next(steps)
        before = shown(machine)
        steps.close()
        del steps
        self.assert_same(shown(machine), before)
        self.assert_same(machine.finish(), swapped_fold("abcdef"))


def swapped_fold(text):
    """What folding letters from the left makes, each turned as often as letters stand behind it."""
    return "".join(letter.swapcase() if (len(text) - at) % 2 == 0 else letter for at, letter in enumerate(text))


class Adding(Promises):

    def test_marks_go_on_by_one_for_each_value(self):
        for row, _, tail, ring in itertools.chain(small_rows(4), list(large_rows())[::5]):
            for many in [many for many in (0, 1, 2, 3, 40 - len(row)) if many <= 40 - len(row)]:
                machine = machine_of(numbered(1, len(row)), tail, ring, row)
                plain = PlainMachine(counting_turn(tail, ring), put_behind, numbered(1, len(row)), tail, ring, row)
                plain.add(numbered(50, many))
                machine += numbered(50, many)
                self.assert_same((machine.results, machine.marks), (plain.results(), plain.marks()))
                self.assert_same(machine.spans, [(number, number) for number in range(1, len(row) + many + 1)])

    def test_folds_from_the_left_stay_so(self):
        for tail, ring in LARGE_PAIRS:
            machine = machine_of(numbered(1, 3), tail, ring)
            machine += numbered(4, 10)
            self.assert_same(machine.marks, fold_marks(13, tail, ring))
            for _ in range(27):
                machine += [None]
            self.assert_same(machine.marks, fold_marks(40, tail, ring))

    def test_the_object_stays_the_same(self):
        machine = same = swapping("abc")
        machine += ["d"]
        machine += []
        self.assertIs(machine, same)
        rows = [swapping("a")]
        first = rows[0]
        rows[0] += ["b"]
        self.assertIs(rows[0], first)
        self.assertEqual(first.results, ["a", "b"])

    def test_its_own_lists(self):
        machine = swapping("ab")
        machine += machine.results
        machine += machine.marks
        self.assert_same(machine.results, ["a", "b", "a", "b", 1, 0, 1, 0])

    def test_it_keeps_a_copy(self):
        machine, more = swapping("ab"), ["c", "d"]
        machine += more
        before = shown(machine)
        more.clear()
        self.assert_same(shown(machine), before)
        read = machine.results
        machine += ["e"]
        self.assertEqual(read, ["a", "b", "c", "d"])

    def test_wrong_values(self):
        for text, most in (("a", 39), ("abcdef", 34), ("ab" * 20, 0)):
            machine = swapping(text)
            before = shown(machine)
            wrong = NO_LISTS + [[None] * (most + 1), [None] * (most + 2), [None] * 5000]
            for thing in wrong:
                self.assert_error(InvalidValues, {"index": None}, self.add, machine, thing)
                self.assert_same(shown(machine), before)
            self.assert_error(NothingToUndo, {}, machine.undo)
            self.add(machine, [None] * most)
            self.assert_same(len(machine), 40)
            self.assert_error(InvalidValues, {"index": None}, self.add, machine, [None])

    def add(self, machine, values):
        same = machine
        machine += values
        self.assertIs(machine, same)

    def test_other_machines_are_no_values(self):
        machine = swapping("ab")
        self.assert_error(InvalidValues, {"index": None}, self.add, machine, swapping("c"))
        self.assert_error(InvalidValues, {"index": None}, self.add, machine, machine)

    def test_joined_parts_make_room(self):
        machine = swapping("ab" * 20)
        self.assert_error(InvalidValues, {"index": None}, self.add, machine, ["c"])
        machine.join(1)
        machine += ["c"]
        self.assert_same((len(machine), machine.spans[-1]), (40, (41, 41)))
        machine.finish()
        machine += ["d"] * 39
        self.assert_same((len(machine), machine.spans[0], machine.spans[-1]), (40, (1, 41), (80, 80)))

    def test_what_could_be_finished_can_be_finished_still(self):
        for row, _, tail, ring in small_rows(5):
            machine = machine_of(numbered(1, len(row)), tail, ring, row)
            while len(machine) > 1:
                for many in (1, 2, 3):
                    machine += [None] * many
                    self.assertTrue(can_be_finished(machine.marks, tail, ring))
                    machine.undo()
                machine.join(machine.safe_places()[-1])


class Undoing(Promises):

    def test_nothing_to_undo(self):
        for machine in (swapping("a"), swapping("abc"), swapping("ab").followed_by(swapping("c"))):
            before = shown(machine)
            for _ in range(2):
                self.assert_error(NothingToUndo, {}, machine.undo)
                self.assert_same(shown(machine), before)

    def test_deeds_are_taken_back_one_by_one(self):
        for tail, ring in PAIRS:
            machine = machine_of(numbered(1, 4), tail, ring)
            looks = [shown(machine)]
            for deed in ("join", "add", "empty", "join", "join", "empty", "add", "add", "join"):
                if deed == "join":
                    machine.join(machine.safe_places()[-1])
                else:
                    machine += numbered(looks[-1]["spans"][-1][1] + 1, 2 if deed == "add" else 0)
                looks.append(shown(machine))
            for look in looks[:0:-1]:
                self.assert_same(shown(machine), look)
                self.assertIsNone(machine.undo())
            self.assert_same(shown(machine), looks[0])
            self.assert_error(NothingToUndo, {}, machine.undo)
            self.assert_same(shown(machine), looks[0])

    def test_finish_is_taken_back_joining_by_joining(self):
        for row, tree, tail, ring in itertools.chain(small_rows(5), list(large_rows())[::7]):
            machine = machine_of(numbered(1, len(row)), tail, ring, row)
            before = shown(machine)
            machine.finish()
            for parts in range(2, len(row) + 1):
                behind = machine.marks
                machine.undo()
                self.assertEqual(len(machine), parts)
                self.assertIn(behind, [support.row_behind(machine.marks, place) for place in machine.safe_places()])
            self.assert_same(shown(machine), before)
            self.assert_error(NothingToUndo, {}, machine.undo)
            self.assert_same(machine.finish(), told_result(tree, tail, ring))

    def test_refused_deeds_are_not_taken_back(self):
        machine = swapping("abcde")
        machine.join(1)
        for call in (lambda: machine.join(3), lambda: machine.join(9), lambda: machine.followed_by(None)):
            with self.assertRaises((ValueError, LookupError)):
                call()
        with self.assertRaises(InvalidValues):
            machine += [None] * 40
        machine.undo()
        self.assert_same(shown(machine), shown(swapping("abcde")))

    def test_looks_are_not_deeds(self):
        machine = swapping("abc")
        shown(machine)
        machine.followed_by(machine)
        machine.run()
        self.assert_error(NothingToUndo, {}, machine.undo)

    def test_finishing_one_part_is_no_deed(self):
        machine = swapping("a")
        self.assertEqual(machine.finish(), "a")
        self.assertEqual(list(machine.run()), [])
        self.assert_error(NothingToUndo, {}, machine.undo)

    def test_another_way_behind_an_undo(self):
        machine = swapping("abcdef")
        machine.join(1)
        machine.undo()
        machine.join(2)
        machine += ["g"]
        machine.undo()
        machine += ["h"]
        self.assert_same(machine.results, ["a", "Bc", "d", "e", "f", "h"])
        self.assert_same(machine.finish(), swapped_fold("abcdefh"))

    def test_six_hundred_empty_additions(self):
        machine = swapping("abc")
        before = shown(machine)
        for _ in range(600):
            machine += []
        self.assert_same(shown(machine), before)
        machine.join(1)
        machine.undo()
        for _ in range(600):
            machine.undo()
        self.assert_same(shown(machine), before)
        self.assert_error(NothingToUndo, {}, machine.undo)


class OneBehindTheOther(Promises):

    def pairs_of_machines(self):
        """Pairs of small machines, some with joined parts."""
        source = random.Random(19)
        for tail, ring in PAIRS:
            rows = [
                list(row) for leaves in range(1, 5) for row in support.trees_by_marks(leaves, tail, ring)
            ]
            for _ in range(40):
                made = []
                for first in (1, 101):
                    row = source.choice(rows)
                    values = numbered(first, len(row))
                    machine = machine_of(values, tail, ring, row)
                    plain = PlainMachine(counting_turn(tail, ring), put_behind, values, tail, ring, row)
                    for _ in range(source.randint(0, 2)):
                        if places := plain.safe_places():
                            place = source.choice(places)
                            machine.join(place)
                            plain.join(place)
                    made.append((machine, plain))
                yield made[0], made[1], tail, ring

    def test_small_ones(self):
        finished = stuck = 0
        for (one, plain), (other, other_plain), tail, ring in self.pairs_of_machines():
            before = shown(one), shown(other)
            if can_be_finished(plain.row_with(other_plain), tail, ring):
                both, told = one.followed_by(other), plain.followed_by(other_plain)
                self.assert_same(shown(both), told.shown())
                self.assertEqual([len(both.finish()), len(both)], [told.many_values(), 1])
                finished += 1
            else:
                self.assert_error(Stuck, {}, one.followed_by, other)
                stuck += 1
            self.assert_same((shown(one), shown(other)), before)
        self.assertTrue(finished > 50 and stuck > 50)

    def test_folds_from_the_left(self):
        for tail, ring in LARGE_PAIRS:
            for one, two in ((1, 1), (2, 3), (5, 1), (1, 9), (20, 20), (39, 1), (1, 39)):
                other = machine_of(numbered(one + 1, two), tail, ring)
                both = machine_of(numbered(1, one), tail, ring).followed_by(other)
                self.assert_same(shown(both), shown(machine_of(numbered(1, one + two), tail, ring)))
                self.assert_same(both.finish(), told_result(list(range(one + two - 1, -1, -1)), tail, ring))

    def test_values_count_and_not_parts(self):
        one, other = swapping("ab"), swapping("cdefghi")
        other.join(1)
        other.join(1)
        self.assert_same((len(other), other.marks), (5, [0, 1, 0, 1, 0]))
        both = one.followed_by(other)
        # Seven values go on behind the first two, in five parts.
        self.assert_same(both.marks, [0, 1, 0, 1, 0, 1, 0])
        self.assert_same(both.spans, [(1, 1), (2, 2), (3, 5), (6, 6), (7, 7), (8, 8), (9, 9)])
        self.assert_same(both.finish(), swapped_fold("abcdefghi"))

    def test_values_are_counted_through_anew(self):
        one, other = swapping("abcdef"), swapping("ghijk")
        one.join(1)
        one.join(1)
        other.join(1)
        other += ["l"]
        other.join(1)
        self.assert_same((one.spans, other.spans), (
            [(1, 3), (4, 4), (5, 5), (6, 6)], [(1, 3), (4, 4), (5, 5), (6, 6)],
        ))
        both = one.followed_by(other)
        self.assert_same(both.spans, [(1, 3), (4, 4), (5, 5), (6, 6), (7, 9), (10, 10), (11, 11), (12, 12)])
        both += ["m"]
        self.assert_same(both.spans[-1], (13, 13))
        self.assert_same(both.finish(), swapped_fold("abcdefghijklm"))

    def test_a_whole_one_behind_a_whole_one(self):
        one, other = swapping("abc"), swapping("defg")
        one.finish()
        other.finish()
        # The second piece has four values, which does not leave 1 modulo the ring.
        self.assert_error(Stuck, {}, one.followed_by, other)
        other = swapping("def")
        other.finish()
        both = one.followed_by(other)
        self.assert_same((both.marks, both.spans), ([1, 0], [(1, 3), (4, 6)]))
        self.assert_same(both.finish(), swapped_fold("abcdef"))

    def test_pieces_of_the_document(self):
        for tail, ring in PAIRS:
            for sizes in itertools.product(range(1, 5), repeat=2):
                one, other = (machine_of(numbered(1, size), tail, ring) for size in sizes)
                one.finish()
                other.finish()
                single = tail >= 2
                if sizes[1] == 1 or (not single and (sizes[1] - 1) % ring == 0):
                    one.followed_by(other).finish()
                else:
                    self.assert_error(Stuck, {}, one.followed_by, other)

    def test_behind_itself(self):
        machine = swapping("abc")
        machine.join(1)
        before = shown(machine)
        both = machine.followed_by(machine)
        self.assert_same((both.marks, both.spans), ([0, 1, 1, 0], [(1, 2), (3, 3), (4, 5), (6, 6)]))
        self.assert_same(shown(machine), before)
        self.assert_same(both.finish(), swapped_fold("abcabc"))
        self.assert_same(shown(machine), before)
        self.assert_same(machine.finish(), swapped_fold("abc"))
        self.assert_same((both.result, machine.result), (swapped_fold("abcabc"), swapped_fold("abc")))

    def test_later_deeds_show_in_no_other(self):
        one, other = swapping("abc"), swapping("def")
        both = one.followed_by(other)
        again = one.followed_by(other)
        machines = [one, other, both, again]
        for at, machine in enumerate(machines):
            for deed in (self.join_first, self.add_one, self.join_first, self.undo_last, self.finish):
                others = [shown(elsewhere) for elsewhere in machines if elsewhere is not machine]
                deed(machine)
                self.assert_same([shown(elsewhere) for elsewhere in machines if elsewhere is not machine], others)
        self.assert_same(both.result, swapped_fold("abcdefz"))

    def join_first(self, machine):
        machine.join(machine.safe_places()[0])

    def add_one(self, machine):
        machine += ["z"]

    def undo_last(self, machine):
        machine.undo()

    def finish(self, machine):
        machine.finish()

    def test_only_later_deeds_are_undone(self):
        one, other = swapping("abcd"), swapping("ef")
        one.join(1)
        one += ["x"]
        other += []
        both = one.followed_by(other)
        before = shown(both)
        self.assert_error(NothingToUndo, {}, both.undo)
        both.join(1)
        both += ["z"]
        both += []
        for _ in range(3):
            both.undo()
        self.assert_same(shown(both), before)
        self.assert_error(NothingToUndo, {}, both.undo)
        # What was done to the two is still theirs to take back.
        one.undo()
        one.undo()
        other.undo()
        self.assert_same((one.results, other.results), (["a", "b", "c", "d"], ["e", "f"]))
        self.assert_same(shown(both), before)

    def test_the_turn_and_the_join_of_the_first(self):
        one = Machine(lambda text: f"[{text}]", lambda left, right: left + right, ["a", "b"], tail=0, ring=1)
        other = Machine(lambda text: f"<{text}>", lambda left, right: right + left, ["c", "d"], tail=0, ring=1)
        both = one.followed_by(other)
        both.join(1)
        both.join(1)
        self.assertEqual(both.results, ["[[a]b]c", "d"])

    def test_other_tails_and_rings(self):
        for (tail, ring), (other_tail, other_ring) in itertools.permutations(LARGE_PAIRS, 2):
            one = machine_of(numbered(1, 2), tail, ring)
            for many in (1, 2, 40):
                # With 40 there are too many parts, too, but that comes later.
                other = machine_of(numbered(3, many), other_tail, other_ring)
                self.assert_error(UnlikeMarks, {}, one.followed_by, other)
        # The marks are equal, and the same trees agree, but the tails are not equal.
        self.assert_error(UnlikeMarks, {}, machine_of([1], 0, 2).followed_by, machine_of([1], 1, 2))

    def test_too_many_parts(self):
        for one, two in ((1, 40), (40, 1), (20, 21), (40, 40)):
            first, second = machine_of(numbered(1, one)), machine_of(numbered(50, two))
            self.assert_error(InvalidValues, {"index": None}, first.followed_by, second)
            self.assert_same((len(first), len(second)), (one, two))
        # This one is stuck, too, but that comes later.
        whole = machine_of(numbered(1, 2))
        whole.finish()
        one = machine_of(numbered(1, 40))
        self.assert_error(InvalidValues, {"index": None}, one.followed_by, whole)
        one.join(1)
        self.assert_error(Stuck, {}, one.followed_by, whole)

    def test_forty_parts_of_many_values(self):
        one, two = machine_of(numbered(1, 40)), machine_of(numbered(1, 40))
        for _ in range(20):
            one.join(1)
            two.join(1)
        both = one.followed_by(two)
        self.assert_same((len(both), both.spans[-1]), (40, (80, 80)))
        self.assertEqual(len(both.finish()), 80)

    def test_things_that_are_no_machines(self):
        machine = swapping("abc")
        before = shown(machine)
        for thing in (None, True, 0, "abc", ["a"], (), {}, object(), Machine):
            with self.assertRaises((UnlikeMarks, TypeError, AttributeError)):
                machine.followed_by(thing)
            self.assert_same(shown(machine), before)


class Drawn:
    """A machine and the plain one, to which the same drawn deeds are done."""

    def __init__(self, case, source, tail, ring):
        self.case, self.source, self.tail, self.ring = case, source, tail, ring
        self.next_number = 1
        self.machine, self.plain = self.made(source.randint(1, 6))
        self.steps = []

    def values(self, many):
        """Values that no other part has."""
        self.next_number += many
        return numbered(self.next_number - many, many)

    def made(self, many):
        values, row = self.values(many), None
        if self.source.random() < 0.5:
            rows = list(support.trees_by_marks(many, self.tail, self.ring))
            row = list(self.source.choice(rows))
        turn = counting_turn(self.tail, self.ring)
        plain = PlainMachine(turn, put_behind, values, self.tail, self.ring, row)
        return Machine(turn, put_behind, values, tail=self.tail, ring=self.ring, marks=row), plain

    def join(self):
        if places := self.plain.safe_places():
            place = self.source.choice(places)
            self.case.assertIsNone(self.machine.join(place))
            self.plain.join(place)

    def refused(self):
        place = self.source.randint(-1, len(self.plain.parts) + 1)
        if place not in self.plain.places():
            self.case.assert_error(NoJoining, {"place": place}, self.machine.join, place)
        elif place not in self.plain.safe_places():
            self.case.assert_error(Stuck, {}, self.machine.join, place)

    def add(self):
        many = self.source.choice([0, 0, 1, 1, 2, 3])
        if len(self.plain.parts) + many <= 9:
            values = self.values(many)
            self.machine += values
            self.plain.add(values)

    def add_too_many(self):
        with self.case.assertRaises(InvalidValues):
            self.machine += [None] * (41 - len(self.plain.parts))

    def undo(self):
        for _ in range(self.source.randint(1, 3)):
            if self.plain.past:
                self.case.assertIsNone(self.machine.undo())
                self.plain.undo()
            else:
                self.case.assert_error(NothingToUndo, {}, self.machine.undo)

    def run(self):
        self.steps.append(self.machine.run())

    def step(self):
        if self.steps:
            steps = self.source.choice(self.steps)
            place = next(steps, None)
            if len(self.plain.parts) == 1:
                self.case.assertIsNone(place)
                self.steps.remove(steps)
            else:
                self.case.assertIn(place, self.plain.safe_places())
                self.plain.join(place)

    def finish(self):
        """Carries out what the machine does, as its parts tell when they are taken back."""
        rows = []
        result = self.machine.finish()
        for _ in range(len(self.plain.parts) - 1):
            rows.append(self.machine.spans)
            self.machine.undo()
        self.case.assert_same(shown(self.machine), self.plain.shown())
        for row in rows[::-1]:
            ends = [last for _, last in self.machine.spans]
            place = next(at for at, last in enumerate(ends, 1) if last not in [end for _, end in row])
            self.machine.join(place)
            self.plain.join(place)
            self.case.assert_same(self.machine.spans, row)
        self.case.assert_same([result], self.plain.results())

    def put_behind(self):
        other, other_plain = self.made(self.source.randint(1, 3))
        pairs = [(self.machine, self.plain), (other, other_plain)]
        if self.source.random() < 0.5:
            pairs.reverse()
        (one, one_plain), (two, two_plain) = pairs
        if can_be_finished(one_plain.row_with(two_plain), self.tail, self.ring):
            if len(self.plain.parts) <= 6:
                self.machine, self.plain = one.followed_by(two), one_plain.followed_by(two_plain)
                self.steps = []
        else:
            self.case.assert_error(Stuck, {}, one.followed_by, two)


class DrawnDeeds(Promises):

    def check(self, seed, tail, ring, many):
        source = random.Random(seed)
        drawn = Drawn(self, source, tail, ring)
        deeds = [
            drawn.join, drawn.join, drawn.join, drawn.refused, drawn.add, drawn.add, drawn.add, drawn.add_too_many,
            drawn.undo, drawn.undo, drawn.run, drawn.step, drawn.step, drawn.finish, drawn.put_behind,
        ]
        for _ in range(many):
            source.choice(deeds)()
            self.assert_same(shown(drawn.machine), drawn.plain.shown())
        while drawn.plain.past:
            drawn.machine.undo()
            drawn.plain.undo()
            self.assert_same(shown(drawn.machine), drawn.plain.shown())
        self.assert_error(NothingToUndo, {}, drawn.machine.undo)

    def test_machines_against_a_plain_working_out(self):
        for tail, ring in PAIRS + [(0, 5), (1, 4), (5, 1), (6, 2)]:
            for seed in range(30):
                with self.subTest(tail=tail, ring=ring, seed=seed):
                    self.check(seed, tail, ring, 60)


if __name__ == "__main__":
    unittest.main()
