import unittest
from itertools import permutations, product

from narrowkeys.compared import alike, covers, needless, parting, pruned
from narrowkeys.families import served_pairs
from narrowkeys.shelves import Shelf
from odd import all_indexes, all_questions, fits, samples

FIRST, SECOND = Shelf([("a", "b", "c"), ("b", "a")]), Shelf([("a", "b"), ("b", "a", "c")])
EVERYTHING = all_questions("abcd")


def family(row):
    return {question for question in EVERYTHING if any(fits(index, question) for index in row)}


def size(question):
    return len(question[0]) + (question[1] != "")


class ComparedTest(unittest.TestCase):
    def test_the_printed_answers(self):
        self.assertIs(alike(FIRST, SECOND), True)
        self.assertIsNone(parting(FIRST, SECOND))
        self.assertEqual(((), "b"), parting(FIRST, Shelf([("a", "b", "c")])))
        self.assertEqual([0], needless(Shelf([("a", "b", "c"), ("b", "a", "c"), ("a", "b", "d")])))
        self.assertEqual([("a", "b")], list(pruned(Shelf([("a",), ("a", "b"), ("a",)]))))

    def test_no_indexes(self):
        none, some = Shelf([]), Shelf([("b",)])
        self.assertEqual([True, True, True, None], [covers(none, none), alike(none, none), covers(some, none),
                                                    parting(none, none)])
        self.assertEqual([False, False], [covers(none, some), alike(none, some)])
        self.assertEqual([((), "b")] * 2, [parting(none, some), parting(some, none)])
        self.assertEqual([[], []], [needless(none), list(pruned(none))])
        self.assertIsInstance(pruned(none), Shelf)

    def test_all_by_a_search(self):
        rows = [row for row, _ in samples(160)]
        for one, other in zip(rows, [*rows[1:], rows[0]]):
            for first, second in ((one, other), (one, one[::-1]), (one, one + other), (one + other, one), (one, one[1:])):
                here, there = family(first), family(second)
                shelves = Shelf(first), Shelf(second)
                self.assertIs(covers(*shelves), here >= there)
                self.assertIs(alike(*shelves), here == there)
                apart = sorted(here ^ there, key=lambda question: (size(question), question))
                self.assertEqual(apart[0] if apart else None, parting(*shelves))

    def test_needless_and_pruned_by_a_search(self):
        for row, _ in samples(300):
            row = [index[:3] for index in row] + row[:1]
            whole = family(row)
            free = [at for at in range(len(row)) if family(row[:at] + row[at + 1:]) == whole]
            self.assertEqual(free, needless(Shelf(row)))
            left = list(row)
            for at in range(len(row) - 1, -1, -1):
                if family(left[:at] + left[at + 1:]) == whole:
                    del left[at]
            self.assertEqual(Shelf(left), pruned(Shelf(row)))
            self.assertIs(alike(pruned(Shelf(row)), Shelf(row)), True)
            self.assertEqual([], needless(pruned(Shelf(row))))

    def test_shelves_that_serve_the_same_ranged_questions_are_alike(self):
        rows = [list(row) for many in range(3) for row in product(all_indexes("abc"), repeat=many)][::3]
        ranged = [served_pairs(Shelf(row)) for row in rows]
        for at, row in enumerate(rows):
            for other in range(0, len(rows), 5):
                self.assertIs(alike(Shelf(row), Shelf(rows[other])), ranged[at] == ranged[other])

    def test_parting_tells_plain_questions_too(self):
        # Both a range over a behind b and the equality of both are parted: the plain one is less.
        one, other = Shelf([("b", "a")]), Shelf([("b",)])
        self.assertEqual([(("a", "b"), "")] * 2, [parting(one, other), parting(other, one)])
        self.assertEqual((("a",), "b"), parting(Shelf([("a", "b")]), Shelf([("a",)])))

    def test_parting_tells_the_least_width_first(self):
        one, other = Shelf([("a", "b", "c"), ("z",)]), Shelf([("a",), ("y", "b")])
        self.assertEqual(((), "y"), parting(one, other))
        self.assertEqual((("y", "z"), ""), parting(Shelf([("a", "b", "c"), ("z", "y")]), Shelf([("a", "b"), ("z",)])))

    def test_equal_indexes_several_times(self):
        row = [("a", "b")] * 48
        self.assertEqual(list(range(48)), needless(Shelf(row)))
        self.assertEqual([("a", "b")], list(pruned(Shelf(row))))
        self.assertEqual([1, 3], needless(Shelf([("b",), ("a",), ("a", "c"), ("a",)])))
        self.assertEqual([0, 2], needless(Shelf([("a", "c"), ("b",), ("a", "c")])))
        self.assertEqual([("a", "c"), ("b",)], list(pruned(Shelf([("a", "c"), ("b",), ("a", "c")]))))

    def test_two_others_serve_the_questions_together(self):
        row = [("a", "b", "c"), ("a", "b", "d"), ("b", "a", "c")]
        self.assertEqual([0], needless(Shelf(row)))
        self.assertEqual([("a", "b", "d"), ("b", "a", "c")], list(pruned(Shelf(row))))
        for turned in permutations(row):
            self.assertEqual([turned.index(row[0])], needless(Shelf(turned)))

    def test_pruned_begins_at_the_end(self):
        # Either one of two can go, but not both.
        row = [("a", "b", "c"), ("b", "a", "d"), ("a", "b", "d"), ("b", "a", "c")]
        self.assertEqual([0, 1, 2, 3], needless(Shelf(row)))
        self.assertEqual(row[:2], list(pruned(Shelf(row))))
        self.assertEqual(row[:1:-1], list(pruned(Shelf(row[::-1]))))

    def test_forty_eight_indexes_over_twelve_columns(self):
        index = tuple("lkjihgfedcba")
        turned = [index[at:] + index[:at] for at in range(12)]
        shelf = Shelf(turned * 4)
        self.assertEqual(list(range(48)), needless(shelf))
        self.assertEqual(turned, list(pruned(shelf)))
        self.assertIs(alike(shelf, Shelf(turned)), True)
        self.assertIs(covers(shelf, Shelf(turned[1:])), True)
        self.assertIs(covers(Shelf(turned[1:]), shelf), False)
        self.assertEqual(((), "l"), parting(Shelf(turned[1:]), shelf))

    def test_other_names_give_the_same_answers(self):
        names = dict(zip("abcd", ["d", "x", "a", "b"]))
        rows = [row for row, _ in samples(60)]
        for one, other in zip(rows, rows[1:]):
            first, second = Shelf(one), Shelf(other)
            renamed = first.renamed(names), second.renamed(names)
            self.assertIs(covers(first, second), covers(*renamed))
            self.assertIs(alike(first, second), alike(*renamed))
            self.assertEqual(needless(first), needless(renamed[0]))
            self.assertEqual(pruned(first).renamed(names), pruned(renamed[0]))
            question = parting(first, second)
            self.assertEqual(question and size(question), parting(*renamed) and size(parting(*renamed)))

    def test_asked_twice_and_told_lists_are_new(self):
        row = [("a",), ("a", "b"), ("a",)]
        shelf = Shelf(row)
        told = needless(shelf)
        told.append(None)
        for _ in range(2):
            self.assertEqual([0, 2], needless(Shelf(list(row))))
            self.assertEqual([0, 2], needless(shelf))
            self.assertEqual([("a", "b")], list(pruned(shelf)))
            self.assertEqual((("a",), "b"), parting(shelf, Shelf(row[:1])))
        self.assertEqual(row, list(shelf))


if __name__ == "__main__":
    unittest.main()
