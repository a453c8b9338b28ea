import unittest

from narrowkeys.asked import Asked
from narrowkeys.errors import Unserved
from narrowkeys.indexes import first_fault
from narrowkeys.questions import asking
from narrowkeys.serving import droppable, faults, idle, is_served, place_of, places, unserved
from narrowkeys.shelves import Shelf
from odd import all_indexes, all_questions, fits, samples

NEAR, LATE, BOTH, NAME = asking("city"), asking("city", last="born"), asking("name", "city"), asking("name")
ASKED = Asked([LATE, NEAR, BOTH, NAME])
SHELF = Shelf([("city", "born"), ("name",)])


def count(row, questions):
    return sum(1 for question in questions if any(fits(index, question) for index in row))


class ServingTest(unittest.TestCase):
    def unserved_by(self, shelf, question):
        with self.assertRaises(Unserved) as caught:
            place_of(shelf, question)
        self.assertIs(question, caught.exception.question)

    def test_the_printed_answers(self):
        self.assertEqual([0, 0, None, 1], places(SHELF, ASKED))
        self.assertEqual([BOTH], list(unserved(SHELF, ASKED)))
        self.assertEqual([1, 1], faults(SHELF, BOTH))

    def test_is_served(self):
        self.assertIs(is_served(SHELF, LATE), True)
        self.assertIs(is_served(SHELF, asking(last="name")), True)
        self.assertIs(is_served(SHELF, BOTH), False)
        self.assertIs(is_served(Shelf([]), NEAR), False)

    def test_place_of(self):
        self.assertEqual(0, place_of(SHELF, LATE))
        self.assertEqual(1, place_of(SHELF, NAME))
        self.assertEqual(1, place_of(Shelf([("a",), ("b",), ("b",), ("b", "a")]), asking("b")))
        self.unserved_by(SHELF, BOTH)
        self.unserved_by(Shelf([]), NEAR)

    def test_faults(self):
        shelf = Shelf([("a", "b", "c"), ("a",), ("c",), ("b", "a"), ("b", "a", "d"), ("a",)])
        self.assertEqual([None, 1, 0, 2, 2, 1], faults(shelf, asking("a", "b", last="c")))
        self.assertEqual([None, None, 0, 0, 0, None], faults(shelf, asking("a")))
        self.assertEqual([], faults(Shelf([]), NEAR))

    def test_no_indexes_and_no_questions(self):
        nothing, none = Shelf([]), Asked([])
        self.assertEqual([None] * 4, places(nothing, ASKED))
        self.assertEqual(ASKED, unserved(nothing, ASKED))
        self.assertEqual([[], []], [idle(nothing, ASKED), droppable(nothing, ASKED)])
        self.assertEqual([], places(SHELF, none))
        self.assertEqual(none, unserved(SHELF, none))
        self.assertEqual([[0, 1], [0, 1]], [idle(SHELF, none), droppable(SHELF, none)])

    def test_unserved_is_an_asked(self):
        self.assertIsInstance(unserved(SHELF, ASKED), Asked)
        self.assertEqual(Asked([]), unserved(Shelf([("city", "name"), *SHELF]), ASKED))

    def test_equal_indexes_are_droppable_both(self):
        shelf = Shelf([("name",), ("city", "born"), ("name",)])
        self.assertEqual([0, 2], droppable(shelf, ASKED))
        self.assertEqual([], idle(shelf, ASKED))

    def test_an_idle_index_is_droppable(self):
        shelf = Shelf([("x",), ("city", "born"), ("name",), ("y", "city")])
        self.assertEqual([0, 3], idle(shelf, ASKED))
        self.assertEqual([0, 3], droppable(shelf, ASKED))

    def test_droppable_if_not_all_are_served(self):
        self.assertEqual([], droppable(SHELF, ASKED))
        self.assertEqual([0], droppable(Shelf([("city",), ("city", "born"), ("x", "y")]), ASKED)[:1])
        self.assertEqual([0, 2], droppable(Shelf([("city",), ("city", "born"), ("x", "y")]), ASKED))

    def test_all_by_a_search(self):
        for row, questions in samples(400):
            shelf, asked = Shelf(row), Asked(questions)
            many = range(len(row))
            first = [min((at for at in many if fits(row[at], one)), default=None) for one in questions]
            self.assertEqual(first, places(shelf, asked))
            missing = [one for one, at in zip(questions, first) if at is None]
            self.assertEqual(missing, list(unserved(shelf, asked)))
            self.assertEqual([at for at in many if count([row[at]], questions) == 0], idle(shelf, asked))
            kept = [at for at in many if count(row[:at] + row[at + 1:], questions) == count(row, questions)]
            self.assertEqual(kept, droppable(shelf, asked))
            for one, at in zip(questions, first):
                self.assertIs(is_served(shelf, one), at is not None)
                self.assertEqual([first_fault(index, one) for index in row], faults(shelf, one))
                if at is None:
                    self.unserved_by(shelf, one)
                else:
                    self.assertEqual(at, place_of(shelf, one))

    def test_forty_eight_of_both(self):
        shelf, asked = Shelf(all_indexes("abcd")[-48:]), Asked(all_questions("abcd"))
        self.assertEqual(Asked([]), unserved(shelf, asked))
        self.assertEqual(47, len(places(shelf, asked)))
        self.assertEqual(list(range(48)), droppable(Shelf([("a", "b")] * 48), asked))
        self.assertEqual([], idle(Shelf([("a", "b")] * 48), asked))

    def test_twelve_columns(self):
        index = tuple("lkjihgfedcba")
        asked = Asked([asking(*"bcdefghijkl", last="a"), asking(*index), asking("l"), asking("a")])
        shelf = Shelf([("a",), index])
        self.assertEqual([0, 1, 1, 1], places(shelf, asked))
        self.assertEqual([[], []], [idle(shelf, asked), droppable(shelf, asked)])

    def test_equal_arguments_give_equal_results(self):
        again = Shelf(SHELF.indexes()), Asked([*ASKED.questions()[::-1], NEAR])
        for function in (places, unserved, idle, droppable):
            one, other = function(SHELF, ASKED), function(*again)
            self.assertEqual(one, other)
            if isinstance(one, list):
                one.append(None)
            self.assertEqual(other, function(SHELF, ASKED))
        self.assertEqual([[("city", "born"), ("name",)], 4], [list(SHELF), len(ASKED)])

    def test_told_lists_are_new(self):
        told = faults(SHELF, BOTH)
        told.clear()
        self.assertEqual([1, 1], faults(SHELF, BOTH))

    def test_other_names_give_the_same_answers(self):
        names = dict(zip("abcd", ["d", "x", "a", "b"]))
        for row, questions in samples(60):
            shelf, asked = Shelf(row), Asked(questions)
            others = shelf.renamed(names), asked.renamed(names)
            self.assertEqual(idle(shelf, asked), idle(*others))
            self.assertEqual(droppable(shelf, asked), droppable(*others))
            self.assertEqual(unserved(shelf, asked).renamed(names), unserved(*others))


if __name__ == "__main__":
    unittest.main()
