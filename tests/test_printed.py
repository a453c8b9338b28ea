import doctest
import pathlib
import unittest


class PrintedTest(unittest.TestCase):
    def test_the_examples_of_the_document(self):
        path = pathlib.Path(__file__).resolve().parent / "printed.txt"
        found = doctest.testfile(str(path), module_relative=False)
        self.assertEqual(0, found.failed)
        self.assertEqual(58, found.attempted)


if __name__ == "__main__":
    unittest.main()
