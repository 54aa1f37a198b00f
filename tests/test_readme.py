"""What README.md shows is what the program returns."""

import doctest
import pathlib
import unittest

README = pathlib.Path(__file__).resolve().parent.parent / "README.md"


class Readme(unittest.TestCase):

    def test_the_examples(self):
        result = doctest.testfile(str(README), module_relative=False)
        self.assertGreater(result.attempted, 5)
        self.assertEqual(result.failed, 0)


if __name__ == "__main__":
    unittest.main()
