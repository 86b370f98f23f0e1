"""cutfolds/errors.py: the classes of errors, their bases and fields."""

import unittest

from cutfolds import errors
from tests.support import Unlike

VALUE_ERRORS = {
    "InvalidTree": ["index"],
    "InvalidMarks": ["index"],
    "InvalidSizes": ["index"],
    "InvalidValues": ["index"],
    "InvalidPlaces": ["index"],
    "InvalidSigns": ["index"],
    "InvalidNumber": ["number"],
    "InvalidFactor": ["factor"],
    "InvalidModulus": ["modulus"],
    "InvalidLetters": ["letter"],
    "InvalidText": ["place"],
    "InvalidTail": ["tail"],
    "InvalidRing": ["ring"],
    "UnequalLeaves": ["first", "second"],
    "UnlikeMarks": [],
    "Stuck": [],
    "Unfinished": [],
}
LOOKUP_ERRORS = {
    "NoJoining": ["place"],
    "NoPart": ["place"],
    "NoStep": ["leaf"],
    "NothingToUndo": [],
}
ALL_ERRORS = {**VALUE_ERRORS, **LOOKUP_ERRORS}
ALL_FIELDS = sorted({name for names in ALL_ERRORS.values() for name in names})


class Bases(unittest.TestCase):

    def test_there_are_just_twenty_one(self):
        found = [name for name, thing in vars(errors).items() if isinstance(thing, type)]
        self.assertEqual(sorted(found), sorted(ALL_ERRORS))
        self.assertEqual(len(found), 21)

    def test_their_bases_are_just_those_listed(self):
        for name in ALL_ERRORS:
            with self.subTest(name):
                told = ValueError if name in VALUE_ERRORS else LookupError
                self.assertEqual(getattr(errors, name).__bases__, (told,))

    def test_value_errors(self):
        for name in VALUE_ERRORS:
            with self.subTest(name):
                kind = getattr(errors, name)
                self.assertTrue(issubclass(kind, ValueError))
                self.assertFalse(issubclass(kind, (LookupError, UnicodeError)))

    def test_lookup_errors(self):
        for name in LOOKUP_ERRORS:
            with self.subTest(name):
                kind = getattr(errors, name)
                self.assertTrue(issubclass(kind, LookupError))
                self.assertFalse(issubclass(kind, (ValueError, KeyError, IndexError)))

    def test_none_is_a_subclass_of_another(self):
        for name in ALL_ERRORS:
            for other in ALL_ERRORS:
                if name != other:
                    with self.subTest(name, other=other):
                        self.assertFalse(issubclass(getattr(errors, name), getattr(errors, other)))


class Fields(unittest.TestCase):

    def test_fields_hold_the_things_themselves(self):
        for name, fields in ALL_ERRORS.items():
            for make in (object, list, lambda: None, lambda: 3, lambda: "a", lambda: 10 ** 25, Unlike):
                with self.subTest(name):
                    things = [make() for _ in fields]
                    error = getattr(errors, name)(*things)
                    for field, thing in zip(fields, things):
                        self.assertIs(getattr(error, field), thing)

    def test_first_and_second_are_told_apart(self):
        error = errors.UnequalLeaves(3, 5)
        self.assertEqual((error.first, error.second), (3, 5))

    def test_no_other_fields(self):
        for name, fields in ALL_ERRORS.items():
            with self.subTest(name):
                error = getattr(errors, name)(*[1 for _ in fields])
                self.assertEqual([field for field in ALL_FIELDS if hasattr(error, field)], sorted(fields))

    def test_fields_belong_to_each_error_alone(self):
        for name, fields in ALL_ERRORS.items():
            with self.subTest(name):
                kind = getattr(errors, name)
                one, two = kind(*["one" for _ in fields]), kind(*["two" for _ in fields])
                self.assertEqual([getattr(one, field) for field in fields], ["one" for _ in fields])
                self.assertEqual([getattr(two, field) for field in fields], ["two" for _ in fields])

    def test_each_can_be_raised_and_caught(self):
        for name, fields in ALL_ERRORS.items():
            with self.subTest(name):
                kind = getattr(errors, name)
                with self.assertRaises(kind) as caught:
                    raise kind(*[2 for _ in fields])
                self.assertEqual([getattr(caught.exception, field) for field in fields], [2 for _ in fields])


if __name__ == "__main__":
    unittest.main()
