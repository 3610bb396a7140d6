"""The examples of README.md."""

import doctest
import pathlib
import unittest


class Readme(unittest.TestCase):

    def test_the_examples(self):
        path = pathlib.Path(__file__).parent.parent / 'README.md'
        found = doctest.testfile(str(path), module_relative=False)
        self.assertGreater(found.attempted, 20)
        self.assertEqual(found.failed, 0)


if __name__ == '__main__':
    unittest.main()
