import unittest

from narrowkeys.families import count_served, served, served_pairs
from narrowkeys.shelves import Shelf
from odd import all_questions, fits, samples


class FamiliesTest(unittest.TestCase):
    def test_the_printed_count(self):
        self.assertEqual(9, count_served(Shelf([("a", "b", "c"), ("b", "a")])))

    def test_no_indexes(self):
        self.assertEqual([[], [], 0], [served(Shelf([])), served_pairs(Shelf([])), count_served(Shelf([]))])

    def test_one_column(self):
        shelf = Shelf([("a",), ("a",), ("b",)])
        self.assertEqual([((), "a"), ((), "b"), (("a",), ""), (("b",), "")], served(shelf))
        self.assertEqual([((), "a"), ((), "b")], served_pairs(shelf))
        self.assertEqual(4, count_served(shelf))

    def test_all_by_a_search(self):
        everything = all_questions("abcd")
        for row, _ in samples(300):
            found = [question for question in everything if any(fits(index, question) for index in row)]
            for shelf in (Shelf(row), Shelf([*row[::-1], *row])):
                self.assertEqual(found, served(shelf))
                self.assertEqual([question for question in found if question[1] != ""], served_pairs(shelf))
                self.assertEqual(len(found), count_served(shelf))

    def test_twelve_columns(self):
        index = tuple("lkjihgfedcba")
        turned = [index[at:] + index[:at] for at in range(12)]
        self.assertEqual([24, 12], [count_served(Shelf([index])), len(served_pairs(Shelf([index])))])
        # The turned ones share the question for all columns and no other one.
        self.assertEqual(12 * 24 - 11, count_served(Shelf(turned * 4)))
        self.assertEqual(sorted(set(served(Shelf(turned)))), served(Shelf(turned)))

    def test_told_lists_are_new(self):
        shelf = Shelf([("a",)])
        for function, expected in ((served, [((), "a"), (("a",), "")]), (served_pairs, [((), "a")])):
            told = function(shelf)
            told.append(None)
            self.assertEqual(expected, function(shelf))
        self.assertEqual([("a",)], list(shelf))


if __name__ == "__main__":
    unittest.main()
