"""Promise 2 and the interface: the errors."""

import unittest

from aliasparams import errors
from tests.samples import wrapped

TABLE = [
    ("NoBook", ValueError, ["position"]),
    ("NoName", KeyError, ["name"]),
    ("NoTerm", ValueError, ["number", "reason"]),
    ("NoArgument", LookupError, ["position", "reason"]),
    ("WrongCount", IndexError, ["given", "needed"]),
    ("TooLarge", OverflowError, ["limit"]),
    ("OtherShape", ArithmeticError, ["one", "other"]),
    ("NoText", ValueError, ["text"]),
    ("NoClaim", ValueError, ["claim"]),
    ("NoChange", RuntimeError, ["name"]),
    ("NoCommand", TypeError, []),
    ("NothingToUndo", RuntimeError, []),
]

VALUES = [3, -1, None, True, "text", "{}", "", ["a"], ("b", ()), 10 ** 39,
          wrapped(320), wrapped(5000), wrapped(320, "a", tuple)]


class Errors(unittest.TestCase):

    def test_base(self):
        for name, base, _ in TABLE:
            self.assertEqual(getattr(errors, name).__bases__, (base,), name)

    def test_defined_there(self):
        for name, _, _ in TABLE:
            self.assertEqual(getattr(errors, name).__module__, "aliasparams.errors")

    def test_fields_by_position(self):
        for name, _, fields in TABLE:
            for at in range(len(VALUES)):
                given = [VALUES[(at + place) % len(VALUES)] for place in range(len(fields))]
                error = getattr(errors, name)(*given)
                for field, value in zip(fields, given):
                    self.assertIs(getattr(error, field), value)

    def test_fields_by_name(self):
        for name, _, fields in TABLE:
            given = {field: [field] for field in fields}
            error = getattr(errors, name)(**given)
            for field in fields:
                self.assertIs(getattr(error, field), given[field])

    def test_no_other_count_of_fields(self):
        for name, _, fields in TABLE:
            with self.assertRaises(TypeError):
                getattr(errors, name)(*fields, "more")
            if fields:
                with self.assertRaises(TypeError):
                    getattr(errors, name)(*fields[1:])

    def test_raised_and_shown(self):
        for name, base, fields in TABLE:
            with self.assertRaises(base) as caught:
                raise getattr(errors, name)(*[wrapped(5000)] * len(fields))
            self.assertIsInstance(str(caught.exception), str)
            self.assertIsInstance(repr(caught.exception), str)
