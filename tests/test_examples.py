import doctest
import pathlib
import unittest

TESTS = pathlib.Path(__file__).resolve().parent


class Examples(unittest.TestCase):

    def check(self, path):
        found = doctest.testfile(str(path), module_relative=False, optionflags=doctest.IGNORE_EXCEPTION_DETAIL)
        self.assertEqual(found.failed, 0)
        self.assertGreater(found.attempted, 0)

    def test_the_examples_of_the_readme_are_right(self):
        self.check(TESTS.parent / "README.md")

    def test_the_examples_of_the_document_are_right(self):
        self.check(TESTS / "examples.txt")


if __name__ == "__main__":
    unittest.main()
