"""What README.md shows is so."""

import doctest
import os
import unittest

ROOT = os.path.dirname(os.path.dirname(os.path.abspath(__file__)))


class Readme(unittest.TestCase):

    def test_shown(self):
        found = doctest.testfile(os.path.join(ROOT, "README.md"), module_relative=False)
        self.assertEqual(found.failed, 0)
        self.assertGreater(found.attempted, 5)


if __name__ == "__main__":
    unittest.main()
