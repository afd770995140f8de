"""The examples of the document."""

import doctest
import os
import unittest

from firmrows.ask import matches, questions
from firmrows.base import databases, patterns, rows
from firmrows.compare import frozen, named, needless, within
from firmrows.early import early, least, shapes
from firmrows.future import futures, licences
from firmrows.live import caches, edits, engines, networks, stores
from firmrows.papers import bars, counts, firm, out, trees
from firmrows.text import formats, shell

MODULES = (
    rows, patterns, databases, questions, matches, licences, futures, trees, firm, bars, out, counts, frozen, within,
    needless, named, early, shapes, least, edits, caches, engines, networks, stores, formats, shell,
)


class ExampleTests(unittest.TestCase):
    def test_examples(self):
        names = {}
        for module in MODULES:
            names.update({name: value for name, value in vars(module).items() if not name.startswith("_")})
        place = os.path.join(os.path.dirname(os.path.abspath(__file__)), "examples.txt")
        with open(place, encoding="utf-8") as file:
            text = file.read()
        test = doctest.DocTestParser().get_doctest(text, names, "examples", place, 0)
        self.assertEqual(len(test.examples), 50)
        told = []
        result = doctest.DocTestRunner(verbose=False).run(test, out=told.append)
        self.assertEqual(result.failed, 0, "".join(told))

    def test_readme(self):
        place = os.path.join(os.path.dirname(os.path.dirname(os.path.abspath(__file__))), "README.md")
        with open(place, encoding="utf-8") as file:
            text = file.read().replace("```", "")
        test = doctest.DocTestParser().get_doctest(text, {}, "README", place, 0)
        self.assertGreater(len(test.examples), 40)
        told = []
        result = doctest.DocTestRunner(verbose=False).run(test, out=told.append)
        self.assertEqual(result.failed, 0, "".join(told))


if __name__ == "__main__":
    unittest.main()
