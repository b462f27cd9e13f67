"""The examples in README.md."""

import doctest
import pathlib
import unittest

README = pathlib.Path(__file__).resolve().parent.parent / "README.md"


class Readme(unittest.TestCase):

    def test_examples(self):
        # A fence of the text would otherwise be read as a part of what is shown.
        text = README.read_text().replace("```", "")
        found = doctest.DocTestParser().get_doctest(text, {}, "README.md", str(README), 0)
        self.assertGreater(len(found.examples), 5)
        self.assertEqual(doctest.DocTestRunner(verbose=False).run(found).failed, 0)
