"""Promise 4: names."""

import unittest

from aliasparams.names import is_name
from tests import reference
from tests.samples import JUNK, wrapped


class Names(unittest.TestCase):

    def test_one_to_six_letters(self):
        for name in ["a", "z", "ab", "int", "abcd", "zzzzz", "abcxyz", "use", "parame"]:
            self.assertIs(is_name(name), True, name)

    def test_other_lengths(self):
        for value in ["", "abcdefg", "a" * 2000]:
            self.assertIs(is_name(value), False, value)

    def test_other_signs(self):
        for sign in [chr(at) for at in range(32, 127) if chr(at) != "%"] + ["\n"]:
            expected = sign in "abcdefghijklmnopqrstuvwxyz"
            for text in [sign, "a" + sign, sign + "a", "ab" + sign + "cd"]:
                self.assertIs(is_name(text), expected, text)

    def test_other_values(self):
        for value in [None, True, False, 0, 1, 10 ** 39, ["a"], ("a",), [], (), ("int", ())]:
            self.assertIs(is_name(value), False, value)
        for value in JUNK:
            self.assertIs(is_name(value), reference.is_name(value), value)

    def test_deep_values(self):
        for kind in (list, tuple):
            self.assertIs(is_name(wrapped(320, "a", kind)), False)

    def test_by_name(self):
        self.assertIs(is_name(value="int"), True)
