import unittest
from itertools import combinations, product

from narrowkeys.asked import Asked
from narrowkeys.fewest import fewest
from narrowkeys.levels import least_cost
from narrowkeys.questions import asking, columns_of
from narrowkeys.shelves import Shelf
from narrowkeys.standing import is_more, least_more, more_shelf
from narrowkeys.weights import Weights
from odd import Same, all_indexes, fits, odd_values
from plain import cheapest, mask_of, some_questions, some_shelves, some_tables, weight_of

NEAR, LATE, BOTH, NAME = asking("city"), asking("city", last="born"), asking("name", "city"), asking("name")
ASKED = Asked([LATE, NEAR, BOTH, NAME])
SHELF = Shelf([("city", "born"), ("name",)])
NOTHING, EMPTY = Asked([]), Shelf([])
GREATEST = 10 ** 30


def searched(questions, standing, columns, table):
    """The least number and the least cost of further indexes by a search through all of them."""
    found = []
    for price in (lambda index: 1, lambda index: weight_of(index, table)):
        start = {0: 0}
        for index in standing:
            start = {mask | mask_of(index, questions): 0 for mask in start}
        best = cheapest(start, [(mask_of(index, questions), price(index)) for index in all_indexes(columns)])
        found.append(best[(1 << len(questions)) - 1])
    return tuple(found)


class StandingTest(unittest.TestCase):
    def check(self, asked, standing, numbers, table, **told):
        found = least_more(asked, standing, **told)
        self.assertEqual([tuple, numbers], [type(found), found])
        further = more_shelf(asked, standing, **told)
        self.assertIsInstance(further, Shelf)
        # A shelf of least cost has as few indexes as any, each with just the columns of a question.
        self.assertEqual(numbers, (len(further), sum(weight_of(index, table) for index in further)))
        for question in asked:
            self.assertTrue(any(fits(index, question) for index in [*standing, *further]))
        wholes = [columns_of(question) for question in asked]
        self.assertTrue(all(tuple(sorted(index)) in wholes for index in further))
        self.assertIs(is_more(asked, standing, further, **told), True)

    def test_the_printed_answers(self):
        self.assertEqual((1, 2), least_more(ASKED, SHELF))
        self.check(ASKED, SHELF, (1, 2), {})
        self.check(ASKED, SHELF, (1, 6), {"city": 5}, weights=Weights({"city": 5}))

    def test_all_by_a_search(self):
        rows = zip(some_questions(80, 6), some_shelves(80, 4), some_tables(81))
        for questions, row, table in rows:
            asked, standing, weights = Asked(questions), Shelf(row), Weights(table)
            self.check(asked, standing, searched(questions, row, "abc", {}), {})
            self.check(asked, standing, searched(questions, row, "abc", {}), {}, weights=None)
            self.check(asked, standing, searched(questions, row, "abc", table), table, weights=weights)
            self.assertEqual([Asked(questions), Shelf(row), Weights(table)], [asked, standing, weights])

    def test_no_questions_and_no_indexes(self):
        for told in ({}, {"weights": None}, {"weights": Weights({"a": 7})}):
            for standing in (EMPTY, SHELF, Shelf([("a",)] * 48)):
                self.assertEqual([(0, 0), EMPTY], [least_more(NOTHING, standing, **told),
                                                   more_shelf(NOTHING, standing, **told)])
                self.assertIs(is_more(NOTHING, standing, EMPTY, **told), True)
                self.assertIs(is_more(NOTHING, standing, Shelf([("a",)]), **told), False)
            self.check(Asked([asking("b")]), EMPTY, (1, 1), {}, **told)
        self.check(ASKED, EMPTY, (fewest(ASKED), least_cost(ASKED)), {})
        weights = Weights({"city": 5})
        self.check(ASKED, EMPTY, (fewest(ASKED), least_cost(ASKED, weights=weights)), {"city": 5}, weights=weights)

    def test_standing_indexes_that_serve_all_none_and_some(self):
        self.check(ASKED, Shelf([("city", "born"), ("name", "city")]), (0, 0), {})
        self.check(ASKED, Shelf([("city", "name", "x"), ("name",), ("city", "born", "name")]), (0, 0), {})
        self.check(ASKED, Shelf([("born", "city"), ("x",)]), (2, 4), {})
        self.check(ASKED, Shelf([("city",)]), (2, 4), {})
        self.check(ASKED, Shelf([("city", "name")]), (2, 3), {})

    def test_equal_indexes_and_beginnings_of_others(self):
        for row in ([("name",)] * 2, [("name",), ("name", "x"), ("name",)], [("name", "x", "city"), ("name", "x")]):
            self.check(ASKED, Shelf(row), (2, 4), {})
            self.check(ASKED, Shelf(row[::-1]), (2, 4), {})

    def test_standing_indexes_are_not_lengthened_and_cost_nothing(self):
        asked = Asked([asking("a"), asking("a", "b")])
        self.check(asked, Shelf([("a",)]), (1, 2), {})
        self.check(asked, Shelf([("a", "c")]), (1, 2), {})
        self.check(asked, Shelf([("b", "a", "c", "d")]), (1, 1), {})
        self.check(asked, Shelf([("a",)]), (1, 2 * GREATEST), {"a": GREATEST, "b": GREATEST},
                   weights=Weights({"a": GREATEST, "b": GREATEST}))

    def test_is_more_by_a_search(self):
        indexes = all_indexes("ab")
        for questions, row, table in zip(some_questions(20, 5, "ab"), some_shelves(20, 2, "ab"), some_tables(21, "ab")):
            asked, standing, weights = Asked(questions), Shelf(row), Weights(table)
            plain = searched(questions, row, "ab", {})[1]
            heavy = searched(questions, row, "ab", table)[1]
            for many in range(4):
                for thing in product(indexes, repeat=many):
                    whole = all(any(fits(index, one) for index in [*row, *thing]) for one in questions)
                    paid = sum(map(len, thing))
                    self.assertIs(is_more(asked, standing, Shelf(thing)), whole and paid == plain)
                    paid = sum(weight_of(index, table) for index in thing)
                    self.assertIs(is_more(asked, standing, Shelf(thing), weights=weights), whole and paid == heavy)

    def test_any_value_may_be_no_such_shelf(self):
        right = Shelf([("name", "city")])
        self.assertIs(is_more(ASKED, SHELF, right), True)
        self.assertIs(is_more(ASKED, SHELF, Shelf([("city", "name")])), True)
        for told in ({}, {"weights": Weights({"city": 5})}):
            for thing in [*odd_values(), right.indexes(), tuple(right), [right], (right,), ASKED, SHELF, more_shelf]:
                self.assertIs(is_more(ASKED, SHELF, thing, **told), False)
            for wrong in ([("name", "city")] * 2, [("name",)], [], [("name", "city", "x")], [("name", "born")],
                          [("city", "born"), ("name", "city")], [("name", "city"), ("x",)]):
                self.assertIs(is_more(ASKED, SHELF, Shelf(wrong), **told), False)
        full = Shelf([("city", "born"), ("name", "city")])
        for thing in odd_values():
            self.assertIs(is_more(ASKED, full, thing), isinstance(thing, Shelf) and thing == EMPTY)
        self.assertIs(is_more(ASKED, full, Same()), False)

    def test_a_shelf_that_is_asked_about_may_be_large(self):
        letters = "abcdefghijklmnopqrstuvwxyz"
        long = Shelf([("name", "city", *[first + second for first in letters for second in letters])])
        self.assertIs(is_more(ASKED, SHELF, long), False)
        table = {"name": 678}
        self.assertIs(is_more(Asked([NAME]), EMPTY, Shelf([("name",)]), weights=Weights(table)), True)
        self.assertIs(is_more(ASKED, EMPTY, Shelf([("a",)] * 48)), False)

    def test_two_weights_in_turn_that_are_changed(self):
        one, other = Weights({"city": 2}), Weights({"name": GREATEST})
        copy = one.copied()
        for _ in range(2):
            self.assertEqual([(1, 3), (1, GREATEST + 1), (1, 2)],
                             [least_more(ASKED, SHELF, weights=weights) for weights in (one, other, None)])
        one["city"] = 9
        other["name"] = 1
        self.assertEqual([(1, 10), (1, 2), (1, 3)],
                         [least_more(ASKED, SHELF, weights=weights) for weights in (one, other, copy)])
        asked = Asked([asking("a"), asking("b"), asking("a", "b"), asking("x")])
        weights = Weights({"a": 3})
        self.assertEqual([("b", "a")], [index for index in more_shelf(asked, Shelf([("x",), ("a",)]), weights=weights)])
        self.assertIs(is_more(asked, Shelf([("x",)]), Shelf([("a", "b"), ("b",)]), weights=weights), True)
        weights["b"] = 4
        self.assertIs(is_more(asked, Shelf([("x",)]), Shelf([("a", "b"), ("b",)]), weights=weights), False)
        self.assertIs(is_more(asked, Shelf([("x",)]), Shelf([("b", "a"), ("a",)]), weights=weights), True)

    def test_forty_eight_together_over_twelve_columns(self):
        columns = "abcdefghijkl"
        wide = [asking(*part) for part in combinations(columns, 6)][::19][:36]
        standing = Shelf([*[part[0] for part in wide[:6]], *[(column,) for column in columns[:6]]])
        table = {column: GREATEST for column in columns}
        self.check(Asked(wide), standing, (30, 180), {})
        self.check(Asked(wide), standing, (30, 180 * GREATEST), table, weights=Weights(table))
        turned = Shelf([tuple(columns[at:] + columns[:at]) for at in range(12)])
        last = [asking(*columns[:at], *columns[at + 1:], last=columns[at]) for at in range(12)]
        self.check(Asked([*last, *[asking(last=column) for column in columns]]), turned, (0, 0), {})

    def test_asked_twice_and_in_another_order(self):
        for questions, row, table in zip(some_questions(20, 8), some_shelves(20, 3), some_tables(21)):
            one, other = Asked(questions), Asked([*questions[::-1], *questions])
            weights, same = Weights(table), Weights({column: table[column] for column in list(table)[::-1]})
            for _ in range(2):
                self.assertEqual(least_more(one, Shelf(row), weights=weights),
                                 least_more(other, Shelf(tuple(row)), weights=same))
                self.assertEqual(more_shelf(one, Shelf(row), weights=weights),
                                 more_shelf(other, Shelf(tuple(row)), weights=same))

    def test_other_names_give_the_same_answers(self):
        names = {"a": "c", "b": "x", "c": "a"}
        for questions, row, table in zip(some_questions(30, 8), some_shelves(30, 3), some_tables(31)):
            asked, standing, weights = Asked(questions), Shelf(row), Weights(table)
            others = Weights({names[column]: table[column] for column in table})
            self.assertEqual(least_more(asked, standing, weights=weights),
                             least_more(asked.renamed(names), standing.renamed(names), weights=others))
            further = more_shelf(asked, standing, weights=weights).renamed(names)
            self.assertIs(is_more(asked.renamed(names), standing.renamed(names), further, weights=others), True)


if __name__ == "__main__":
    unittest.main()
