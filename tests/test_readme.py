"""The examples in README.md."""

import doctest
import unittest
from pathlib import Path


class TestReadme(unittest.TestCase):

    def test_examples(self):
        readme = Path(__file__).parent.parent / "README.md"
        found = doctest.testfile(str(readme), module_relative=False)
        self.assertEqual(found.failed, 0)
        self.assertGreater(found.attempted, 0)
