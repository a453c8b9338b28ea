import doctest
import pathlib
import unittest


class ReadmeTest(unittest.TestCase):
    def test_the_printed_answers(self):
        path = pathlib.Path(__file__).resolve().parent.parent / "README.md"
        found = doctest.testfile(str(path), module_relative=False)
        self.assertEqual(0, found.failed)
        self.assertGreater(found.attempted, 0)


if __name__ == "__main__":
    unittest.main()
