"""The examples in README.md."""

import doctest
import pathlib
import unittest


class TestReadme(unittest.TestCase):
    def test_examples(self):
        path = pathlib.Path(__file__).resolve().parent.parent / "README.md"
        result = doctest.testfile(str(path), module_relative=False)
        self.assertGreater(result.attempted, 5)
        self.assertEqual(result.failed, 0)


if __name__ == "__main__":
    unittest.main()
