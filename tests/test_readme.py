"""The example in README.md shows what the program returns."""

import doctest
import pathlib
import unittest

README = pathlib.Path(__file__).resolve().parent.parent / "README.md"


class ReadmeTest(unittest.TestCase):
    def test_example(self):
        results = doctest.testfile(str(README), module_relative=False)
        self.assertGreater(results.attempted, 0)
        self.assertEqual(results.failed, 0)
