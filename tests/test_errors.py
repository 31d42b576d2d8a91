"""[4], [11]: the errors."""

import inspect
import unittest

from kindsworn import errors
from tests.anything import any_values

FIELDS = {
    "Broken": ("index",), "Hidden": ("module", "name"), "NoIndex": ("index",), "NoModule": ("module", "name"),
    "NoName": ("module", "name"), "NoText": ("line", "column"), "NoValues": ("module", "name"),
    "NotFit": ("module", "name"), "NotKind": (), "NotProgram": (), "NotTyped": ("lot",),
    "NotWhole": ("place", "pattern"), "Nothing": (), "Stuck": (), "TooGreat": ("most",), "TooMany": ("most",),
    "Twice": ("module", "name"), "Untaken": (), "UseRing": ("names",), "Wrong": ("place",),
}


class ErrorsTest(unittest.TestCase):
    def test_sworn_error_is_one_of_value_error(self):
        self.assertEqual(errors.SwornError.__bases__, (ValueError,))

    def test_each_is_a_class_of_its_own(self):
        for name in FIELDS:
            with self.subTest(name):
                self.assertEqual(getattr(errors, name).__bases__, (errors.SwornError,))
                for other in FIELDS:
                    if other != name:
                        self.assertFalse(issubclass(getattr(errors, name), getattr(errors, other)))

    def test_there_are_no_others(self):
        found = [one.__name__ for one in vars(errors).values() if isinstance(one, type)]
        self.assertEqual(sorted(found), sorted(list(FIELDS) + ["SwornError"]))

    def test_signatures(self):
        for name, fields in FIELDS.items():
            with self.subTest(name):
                self.assertEqual(tuple(inspect.signature(getattr(errors, name)).parameters), fields)

    def test_the_very_objects_are_kept(self):
        for name, fields in FIELDS.items():
            for value in any_values() + [object(), [1], {1: []}]:
                given = [value] + [[field] for field in fields[1:]]
                given = given[:len(fields)]
                error = getattr(errors, name)(*given)
                for field, one in zip(fields, given):
                    self.assertIs(getattr(error, field), one)
                self.assertEqual(sorted(vars(error)), sorted(fields))

    def test_they_are_raised_and_caught(self):
        with self.assertRaises(ValueError) as caught:
            raise errors.Twice("M", "x")
        self.assertEqual((caught.exception.module, caught.exception.name), ("M", "x"))
        with self.assertRaises(errors.SwornError):
            raise errors.NotKind()


if __name__ == "__main__":
    unittest.main()
