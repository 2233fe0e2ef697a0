"""The calls that README.md shows."""

import builtins
import doctest
import unittest
from pathlib import Path

README = Path(__file__).resolve().parent.parent / "README.md"


class ReadmeTest(unittest.TestCase):

    def test_calls(self):
        # Results that are shown are kept under this name among the builtins, which other tests look at.
        self.addCleanup(vars(builtins).pop, "_", None)
        found = doctest.testfile(str(README), module_relative=False)
        self.assertEqual(found.failed, 0)
        self.assertGreater(found.attempted, 40)


if __name__ == "__main__":
    unittest.main()
