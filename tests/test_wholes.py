import unittest
from itertools import combinations

from narrowkeys.asked import Asked
from narrowkeys.levels import least_cost
from narrowkeys.narrow import is_narrow, narrow_shelf
from narrowkeys.questions import asking, columns_of
from narrowkeys.shelves import Shelf
from narrowkeys.weights import Weights
from narrowkeys.wholes import maybe_wholes, shelf_with, sure_wholes, whole_range
from odd import all_questions
from plain import costs_of_shelves, some_questions, some_tables, weight_of

PAIR = Asked([asking("a"), asking("b"), asking("a", "b")])
NOTHING = Asked([])
GREATEST = 10 ** 30


def all_columns(columns):
    return [part for many in range(1, len(columns) + 1) for part in combinations(columns, many)]


def numbers(questions, columns, counted, table):
    """The numbers of indexes with the columns in counted in all shelves of the least cost."""
    paid = costs_of_shelves(questions, columns, lambda index: weight_of(index, table), counted)
    return sorted(many for many, price in paid.items() if price == min(paid.values()))


class WholesTest(unittest.TestCase):
    def check_shelf(self, asked, columns, many, **told):
        shelf = shelf_with(asked, columns, many, **told)
        self.assertIsInstance(shelf, Shelf)
        self.assertIs(is_narrow(asked, shelf, **told), True)
        self.assertEqual(many, len([index for index in shelf if tuple(sorted(index)) == columns]))

    def check(self, asked, columns, found, **told):
        """found is the ascending list of all numbers that there are."""
        self.assertEqual((found[0], found[-1]), whole_range(asked, columns, **told))
        self.assertEqual(list(range(found[0], found[-1] + 1)), found)
        for many in found:
            self.check_shelf(asked, columns, many, **told)
        for many in (found[0] - 1, found[-1] + 1, -1, -(10 ** 39), 49, 10 ** 39):
            self.assertIsNone(shelf_with(asked, columns, many, **told))

    def check_all(self, questions, columns, table, **told):
        asked, sure, maybe = Asked(questions), [], []
        for counted in all_columns(columns):
            found = numbers(questions, columns, counted, table)
            self.check(asked, counted, found, **told)
            sure.extend([counted] * (found[0] > 0))
            maybe.extend([counted] * (found[-1] > 0))
        self.assertEqual(sorted(sure), sure_wholes(asked, **told))
        self.assertEqual(sorted(maybe), maybe_wholes(asked, **told))

    def test_the_printed_answers(self):
        self.assertEqual([(0, 1), (1, 1), [("a", "b")]],
                         [whole_range(PAIR, ("a",)), whole_range(PAIR, ("a", "b")), sure_wholes(PAIR)])
        self.assertEqual([("a",), ("a", "b"), ("b",)], maybe_wholes(PAIR))
        self.check_all(PAIR.questions(), "ab", {})
        self.check_all(PAIR.questions(), "abc", {"a": 4}, weights=Weights({"a": 4}))

    def test_no_questions(self):
        for told in ({}, {"weights": None}, {"weights": Weights({"a": 7})}):
            self.assertEqual([[], [], (0, 0)], [sure_wholes(NOTHING, **told), maybe_wholes(NOTHING, **told),
                                                whole_range(NOTHING, ("a",), **told)])
            self.assertEqual(Shelf([]), shelf_with(NOTHING, ("a", "b"), 0, **told))
            self.check(NOTHING, ("a", "b"), [0], **told)

    def test_one_question(self):
        wide = tuple("abcdefghijkl")
        for question in (asking("a"), asking(last="a"), asking(*wide), asking(*wide[1:], last="a")):
            asked, columns = Asked([question]), columns_of(question)
            self.check(asked, columns, [1])
            self.check(asked, ("m",), [0])
            self.check(asked, ("a", "b"), [0])
            self.assertEqual([[columns], [columns]], [sure_wholes(asked), maybe_wholes(asked)])

    def test_columns_of_one_question_of_several_and_of_none(self):
        # All ranges over three columns: six indexes, three of them with just these columns, as many as possible.
        questions = [asking(*columns, last=last) for columns, last in
                     ((("a", "b"), "c"), (("a", "c"), "b"), (("b", "c"), "a"))]
        self.check(Asked(questions), ("a", "b", "c"), [3])
        self.check(Asked([*questions, asking("a", "b", "c")]), ("a", "b", "c"), [3])
        self.check(Asked([*questions, asking("a", last="b")]), ("a", "b", "c"), [3])
        self.check(Asked([asking("a", last="b"), asking("b", last="a"), asking("a", "b", last="c")]), ("a", "b"), [1])
        self.check(Asked([asking("a", last="b"), asking("b", last="a"), asking("a", "b", "c")]), ("b", "c"), [0])

    def test_several_numbers_by_equal_weights(self):
        ends = [asking("a", "b", "x"), asking("c", "d", "y")]
        low = [asking("a", last="b"), asking("b", last="a"), asking("c", last="d"), asking("d", last="c")]
        asked = Asked([*low, *ends])
        self.check(asked, ("a", "b"), [1])
        # Two of three can be lengthened: which of them is free.
        ends = [asking("a", "b", "c", last="d"), asking("a", "b", "c", last="e")]
        low = [asking("a", last="b"), asking("b", last="a"), asking("a", last="c"), asking("c", last="a")]
        asked = Asked([*low, *ends])
        self.check(asked, ("a", "b"), [0, 1, 2])
        self.check(asked, ("a", "c"), [0, 1, 2])
        self.check(asked, ("a", "b"), [2], weights=Weights({"c": 2}))
        self.check(asked, ("a", "b"), [0], weights=Weights({"b": 2}))

    def test_all_by_a_search(self):
        for questions in some_questions(60, 6):
            self.check_all(questions, "abc", {})
        for questions, table in zip(some_questions(60, 6, seed=61), some_tables(61)):
            self.check_all(questions, "abc", table, weights=Weights(table))
        for questions in some_questions(3, 5, "abcd", seed=62):
            self.check_all(questions, "abcd", {}, weights=None)

    def test_many_questions_by_a_search(self):
        everything = all_questions("abc")
        for left in range(0, len(everything), 4):
            self.check_all(everything[:left] + everything[left + 5:], "abc", {})

    def test_without_weights_each_column_weighs_one(self):
        for questions in some_questions(20, 7):
            asked = Asked(questions)
            for told in ({"weights": None}, {"weights": Weights({})}, {"weights": Weights({"a": 1})}):
                self.assertEqual(sure_wholes(asked), sure_wholes(asked, **told))
                self.assertEqual(maybe_wholes(asked), maybe_wholes(asked, **told))
                self.assertEqual(whole_range(asked, ("a", "b")), whole_range(asked, ("a", "b"), **told))
                self.assertEqual(shelf_with(asked, ("a", "b"), 1), shelf_with(asked, ("a", "b"), 1, **told))

    def test_two_weights_in_turn_that_are_changed(self):
        one, other = Weights({"a": 2}), Weights({"b": 3})
        copy = one.copied()
        for _ in range(2):
            self.assertEqual([[("a", "b"), ("b",)], [("a",), ("a", "b")], [("a", "b")]],
                             [sure_wholes(PAIR, weights=one), sure_wholes(PAIR, weights=other), sure_wholes(PAIR)])
        one["a"] = 1
        one["b"] = 2
        self.assertEqual([[("a",), ("a", "b")], [("a", "b"), ("b",)]],
                         [maybe_wholes(PAIR, weights=one), maybe_wholes(PAIR, weights=copy)])
        self.assertEqual([(1, 1), (0, 0)], [whole_range(PAIR, ("a",), weights=one),
                                            whole_range(PAIR, ("a",), weights=copy)])
        self.assertEqual([{"b": 2}, {"a": 2}], [one.table(), copy.table()])

    def test_forty_eight_questions_over_twelve_columns(self):
        columns = "abcdefghijkl"
        last = [asking(*columns[:at], *columns[at + 1:], last=columns[at]) for at in range(12)]
        chain = [asking(*columns[:at + 1]) for at in range(12)]
        back = [asking(*columns[at:]) for at in range(1, 12)]
        first = [asking(last=column) for column in columns]
        asked = Asked([*last, *chain, *back, *first])
        self.assertEqual(47, len(asked))
        self.check(asked, tuple(columns), [12])
        self.assertEqual(least_cost(asked), 12 * 12)
        self.assertEqual([[tuple(columns)], [tuple(columns)]], [sure_wholes(asked), maybe_wholes(asked)])
        weights = Weights({column: GREATEST for column in columns})
        wide = [asking(*part) for part in combinations(columns, 6)][::20][:24]
        low = [asking(*part[:2], last=part[2]) for part in combinations(columns, 3)][::10][:22]
        asked = Asked([*wide, *low])
        sure, maybe = sure_wholes(asked, weights=weights), maybe_wholes(asked, weights=weights)
        self.assertEqual([sure_wholes(asked), maybe_wholes(asked)], [sure, maybe])
        for part in maybe:
            least, most = whole_range(asked, part, weights=weights)
            self.assertIs(part in sure, least > 0)
            self.check(asked, part, list(range(least, most + 1)), weights=weights)

    def test_asked_twice_and_in_another_order(self):
        for questions, table in zip(some_questions(20, 9), some_tables(21)):
            one, other = Asked(questions), Asked([*questions[::-1], *questions])
            weights, same = Weights(table), Weights({column: table[column] for column in list(table)[::-1]})
            for _ in range(2):
                self.assertEqual(sure_wholes(one, weights=weights), sure_wholes(other, weights=same))
                self.assertEqual(maybe_wholes(one, weights=weights), maybe_wholes(other, weights=same))
                for columns in maybe_wholes(one, weights=weights):
                    self.assertEqual(shelf_with(one, columns, 1, weights=weights),
                                     shelf_with(other, columns, 1, weights=same))
                sure_wholes(one, weights=weights).append(None)
                maybe_wholes(one, weights=weights).append(None)
            self.assertEqual([Asked(questions), Weights(table)], [one, weights])

    def test_other_names_give_the_same_answers(self):
        names = {"a": "c", "b": "x", "c": "a"}
        for questions, table in zip(some_questions(30, 8), some_tables(31)):
            asked = Asked(questions)
            weights, others = Weights(table), Weights({names[column]: table[column] for column in table})
            renamed = asked.renamed(names)
            for function in (sure_wholes, maybe_wholes):
                found = [tuple(sorted(names[one] for one in columns)) for columns in function(asked, weights=weights)]
                self.assertEqual(sorted(found), function(renamed, weights=others))

    def test_each_shelf_of_the_least_cost_is_within_the_range(self):
        for questions in some_questions(40, 9, "abcd", seed=63):
            asked = Asked(questions)
            rows = [tuple(sorted(index)) for index in narrow_shelf(asked)]
            for columns in all_columns("abcd"):
                least, most = whole_range(asked, columns)
                self.assertTrue(least <= rows.count(columns) <= most)


if __name__ == "__main__":
    unittest.main()
