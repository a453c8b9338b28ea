import unittest
from itertools import combinations, permutations, product

from narrowkeys.asked import Asked
from narrowkeys.fewest import fewest, is_fewest
from narrowkeys.levels import apart_from, least_cost, levels
from narrowkeys.narrow import cost, is_narrow, is_narrow_paper, narrow_paper, narrow_shelf
from narrowkeys.questions import asking, columns_of
from narrowkeys.shelves import Shelf
from narrowkeys.weights import Weights
from odd import all_indexes, fits, odd_values, samples
from plain import least_price, lie_apart, some_questions, some_tables, subsets, weight_of

NEAR, LATE, BOTH, NAME = asking("city"), asking("city", last="born"), asking("name", "city"), asking("name")
ASKED = Asked([LATE, NEAR, BOTH, NAME])
SHELF = Shelf([("city", "born"), ("name",)])
RIGHT = Shelf([("city", "born"), ("name", "city")])
LISTS = [[LATE, NAME], [LATE, BOTH]]
NOTHING = Asked([])
GREATEST = 10 ** 30


class NarrowTest(unittest.TestCase):
    def check_shelf(self, asked, table, paid, shelf, **told):
        self.assertIsInstance(shelf, Shelf)
        self.assertEqual(paid, sum(weight_of(index, table) for index in shelf))
        self.assertEqual(paid, cost(shelf, **told))
        for question in asked:
            self.assertTrue(any(fits(index, question) for index in shelf))
        self.assertIs(is_narrow(asked, shelf, **told), True)
        # A shelf of the least cost has as few indexes as any, each with the columns of a question.
        self.assertIs(is_fewest(asked, shelf), True)
        wholes = [columns_of(question) for question in asked]
        self.assertTrue(all(tuple(sorted(index)) in wholes for index in shelf))

    def check(self, asked, table, paid, **told):
        self.check_shelf(asked, table, paid, narrow_shelf(asked, **told), **told)
        paper = narrow_paper(asked, **told)
        self.assertEqual([tuple, 2], [type(paper), len(paper)])
        shelf, lists = paper
        self.check_shelf(asked, table, paid, shelf, **told)
        found = levels(asked, **told)
        self.assertEqual([list, len(found)], [type(lists), len(lists)])
        for (level, many), row in zip(found, lists):
            self.assertEqual([list, many], [type(row), len(row)])
            self.assertEqual(sorted(set(row)), row)
            self.assertTrue(lie_apart(row))
            self.assertTrue(all(question in asked and weight_of(question, table) >= level for question in row))
            self.assertEqual(many, len(apart_from(asked, level, **told)))
        self.assertIs(is_narrow_paper(asked, paper, **told), True)

    def test_the_printed_answers(self):
        self.assertEqual([3, False, 4], [cost(SHELF), is_narrow(ASKED, SHELF), cost(narrow_shelf(ASKED))])
        self.check(ASKED, {}, 4)
        self.check(ASKED, {"city": 5}, 12, weights=Weights({"city": 5}))

    def test_cost(self):
        weights = Weights({"city": 5, "born": 7})
        self.assertEqual([0, 0, 0], [cost(Shelf([])), cost(Shelf([]), weights=weights), cost(Shelf([]), weights=None)])
        self.assertEqual([3, 3, 13], [cost(SHELF), cost(SHELF, weights=None), cost(SHELF, weights=weights)])
        self.assertEqual(24, cost(Shelf([("city", "born")] * 2), weights=weights))
        for row, _ in samples(60):
            table = {"a": 3, "b": 10 ** 30, "d": 7}
            self.assertEqual(sum(len(index) for index in row), cost(Shelf(row)))
            self.assertEqual(sum(weight_of(index, table) for index in row), cost(Shelf(row), weights=Weights(table)))

    def test_no_questions(self):
        for told in ({}, {"weights": None}, {"weights": Weights({"a": 7})}):
            self.assertEqual(Shelf([]), narrow_shelf(NOTHING, **told))
            self.assertEqual((Shelf([]), []), narrow_paper(NOTHING, **told))
            self.assertIs(is_narrow(NOTHING, Shelf([]), **told), True)
            self.assertIs(is_narrow(NOTHING, Shelf([("a",)]), **told), False)
            self.assertIs(is_narrow_paper(NOTHING, (Shelf([]), []), **told), True)
            for wrong in ((Shelf([]), ()), (Shelf([]), [[]]), [Shelf([]), []], (Shelf([("a",)]), [])):
                self.assertIs(is_narrow_paper(NOTHING, wrong, **told), False)

    def test_one_question(self):
        wide = "abcdefghijkl"
        weights = Weights({column: GREATEST for column in wide})
        for question, many in ((asking("a"), 1), (asking(last="a"), 1), (asking(*wide), 12),
                               (asking(*wide[1:], last="a"), 12)):
            self.check(Asked([question]), {}, many)
            self.check(Asked([question]), weights.table(), many * GREATEST, weights=weights)

    def test_all_by_a_search_through_all_shelves(self):
        for questions, table in zip(some_questions(120, 7), some_tables(121)):
            asked = Asked(questions)
            self.check(asked, {}, least_price(questions, "abc", len))
            self.check(asked, {}, least_price(questions, "abc", len), weights=None)
            paid = least_price(questions, "abc", lambda index: weight_of(index, table))
            self.check(asked, table, paid, weights=Weights(table))
        for questions, table in zip(some_questions(10, 6, "abcd", seed=4), some_tables(11, "abcd")):
            paid = least_price(questions, "abcd", lambda index: weight_of(index, table))
            self.check(Asked(questions), table, paid, weights=Weights(table))

    def test_is_narrow_by_a_search(self):
        indexes = all_indexes("abc")
        for questions, table in zip(some_questions(10, 5, "abc", seed=51), some_tables(11)):
            asked, weights = Asked(questions), Weights(table)
            plain, paid = least_cost(asked), least_cost(asked, weights=weights)
            for many in range(3):
                for row in product(indexes, repeat=many):
                    whole = all(any(fits(index, one) for index in row) for one in questions)
                    self.assertIs(is_narrow(asked, Shelf(row)), whole and sum(map(len, row)) == plain)
                    heavy = sum(weight_of(index, table) for index in row)
                    self.assertIs(is_narrow(asked, Shelf(row), weights=weights), whole and heavy == paid)

    def test_the_same_shelf_by_other_weights(self):
        asked = Asked([asking("a"), asking("b"), asking("a", "b")])
        for table, one, other in (({}, 3, 3), ({"a": 4}, 9, 6), ({"b": 4}, 6, 9)):
            weights = Weights(table)
            first, second = Shelf([("a",), ("b", "a")]), Shelf([("a", "b"), ("b",)])
            self.assertEqual([one, other], [cost(first, weights=weights), cost(second, weights=weights)])
            least = min(one, other)
            self.assertIs(is_narrow(asked, first, weights=weights), one == least)
            self.assertIs(is_narrow(asked, second, weights=weights), other == least)

    def test_is_narrow_paper_by_a_search(self):
        asked, weights = Asked([asking("a"), asking("b"), asking("a", "b")]), Weights({"a": 2, "b": 2})
        rows = [list(row) for part in subsets(asked.questions()) for row in permutations(part)]
        shelves = [row for many in range(3) for row in product(all_indexes("ab"), repeat=many)]
        for row, one, other in product(shelves, rows, rows):
            right = all(any(fits(index, question) for index in row) for question in asked)
            right = right and one == sorted(one) and other == sorted(other)
            right = right and lie_apart(one) and lie_apart(other) and all(len(columns_of(at)) > 1 for at in other)
            right = right and sum(map(len, row)) == len(one) + len(other)
            self.assertIs(is_narrow_paper(asked, (Shelf(row), [one, other])), right)
            self.assertIs(is_narrow_paper(asked, (Shelf(row), [one, other]), weights=weights), right)

    def test_any_value_may_be_no_narrow_shelf(self):
        self.assertIs(is_narrow(ASKED, RIGHT), True)
        for thing in [*odd_values(), RIGHT.indexes(), tuple(RIGHT), [RIGHT], (RIGHT,), ASKED, narrow_paper(ASKED)]:
            self.assertIs(is_narrow(ASKED, thing), False)
            self.assertIs(is_narrow(ASKED, thing, weights=Weights({"city": 5})), False)
        for wrong in (SHELF, Shelf([]), Shelf([*RIGHT, ("a",)]), Shelf([("city", "born", "x"), ("name", "city")]),
                      Shelf([("city", "name"), ("name", "born")]), Shelf([*RIGHT, *RIGHT]), Shelf([("a", "b"), ("c", "d")])):
            self.assertIs(is_narrow(ASKED, wrong), False)
        self.assertIs(is_narrow(ASKED, Shelf(RIGHT.indexes()[::-1])), True)

    def test_a_shelf_that_is_asked_about_may_be_large(self):
        letters = "abcdefghijklmnopqrstuvwxyz"
        single = Asked([asking(one) for one in letters[:12]])
        self.assertIs(is_narrow(single, Shelf([(one,) for one in letters[:12]])), True)
        self.assertIs(is_narrow(single, Shelf([tuple([*letters[at:], *letters[:at]]) for at in range(26)])), False)

    def test_any_value_may_be_no_paper(self):
        self.assertIs(is_narrow_paper(ASKED, (RIGHT, LISTS)), True)
        for thing in [*odd_values(), asking("born"), ASKED, SHELF]:
            for wrong in (thing, (RIGHT, thing), (thing, LISTS), (RIGHT, [LISTS[0], thing]), (RIGHT, LISTS, thing),
                          (RIGHT, [thing, LISTS[1]]), (RIGHT, [LISTS[0], [LATE, thing]]), (RIGHT, [*LISTS, thing]),
                          (RIGHT, [LISTS[0], [LATE, BOTH, thing]]), (RIGHT, [[thing, NAME], LISTS[1]])):
                self.assertIs(is_narrow_paper(ASKED, wrong), False)
                self.assertIs(is_narrow_paper(ASKED, wrong, weights=Weights({})), False)
        for wrong in ([RIGHT, LISTS], (RIGHT, tuple(LISTS)), (RIGHT.indexes(), LISTS), (RIGHT, [tuple(LISTS[0]), LISTS[1]]),
                      (RIGHT, LISTS[:1]), (RIGHT, [*LISTS, []]), (RIGHT, []), (RIGHT, LISTS[::-1]), (LISTS, RIGHT),
                      (RIGHT, [[NAME, LATE], LISTS[1]]), (RIGHT, [LISTS[0], LISTS[0]]), (RIGHT, [LISTS[0], [LATE]]),
                      (RIGHT, [LISTS[0], [LATE, LATE]]), (RIGHT, [[NEAR, LATE], LISTS[1]]), (SHELF, LISTS), (SHELF, [[NAME], LISTS[1]]),
                      (Shelf([("city", "born", "x"), ("name", "city")]), LISTS), (RIGHT,), (), (RIGHT, [LISTS[0], [LATE, list(BOTH)]])):
            self.assertIs(is_narrow_paper(ASKED, wrong), False)
        self.assertIs(is_narrow_paper(ASKED, (RIGHT, [[NEAR, NAME], [LATE, BOTH]])), True)

    def test_a_paper_by_other_weights(self):
        weights = Weights({"city": 5})
        self.assertIs(is_narrow_paper(ASKED, (RIGHT, LISTS), weights=weights), False)
        lists = [[NEAR, NAME], [LATE, BOTH], [LATE, BOTH]]
        self.assertIs(is_narrow_paper(ASKED, (RIGHT, lists), weights=weights), True)
        self.assertIs(is_narrow_paper(ASKED, (RIGHT, [[NEAR, NAME], [NEAR, NAME], lists[2]]), weights=weights), False)
        self.assertIs(is_narrow_paper(ASKED, (RIGHT, [*lists[:2], [NEAR, BOTH]]), weights=weights), False)
        self.assertIs(is_narrow_paper(ASKED, (RIGHT, lists)), False)

    def test_weights_that_are_changed_between_two_calls(self):
        asked, weights = Asked([asking("a"), asking("b"), asking("a", "b")]), Weights({"a": 4})
        copy = weights.copied()
        for column, number, paid in (("a", 9, 11), ("b", 3, 15), ("a", 1, 5), ("b", 1, 3), ("c", 5, 3)):
            weights[column] = number
            self.check(asked, weights.table(), paid, weights=weights)
            self.check(asked, {"a": 4}, 6, weights=copy)
            self.check(asked, {}, 3)

    def test_forty_eight_questions_over_twelve_columns(self):
        columns = "abcdefghijkl"
        weights = Weights({column: 10 ** 29 + at for at, column in enumerate(columns)})
        chain = [asking(*columns[:at + 1]) for at in range(12)]
        ranged = [asking(*columns[at + 1:], last=columns[at]) for at in range(12)]
        wide = [asking(*part) for part in combinations(columns, 6)][::39]
        asked = Asked([*chain, *ranged, *wide[:24]])
        self.assertEqual(47, len(asked))
        self.check(asked, {}, least_cost(asked))
        self.check(asked, weights.table(), least_cost(asked, weights=weights), weights=weights)
        self.assertEqual(fewest(asked), len(narrow_shelf(asked, weights=weights)))

    def test_asked_twice_and_in_another_order(self):
        for questions, table in zip(some_questions(30, 9), some_tables(31)):
            one, other = Asked(questions), Asked([*questions[::-1], *questions])
            weights, same = Weights(table), Weights({column: table[column] for column in list(table)[::-1]})
            for _ in range(2):
                self.assertEqual(narrow_shelf(one, weights=weights), narrow_shelf(other, weights=same))
                self.assertEqual(narrow_paper(one, weights=weights), narrow_paper(other, weights=same))
                _, lists = narrow_paper(one, weights=weights)
                for row in lists:
                    row.append(None)
                lists.append(None)
            self.assertEqual([Asked(questions), Weights(table)], [one, weights])

    def test_other_names_give_the_same_answers(self):
        names = {"a": "c", "b": "x", "c": "a"}
        for questions, table in zip(some_questions(40, 8), some_tables(41)):
            asked = Asked(questions)
            weights, others = Weights(table), Weights({names[column]: table[column] for column in table})
            shelf = narrow_shelf(asked, weights=weights).renamed(names)
            self.assertIs(is_narrow(asked.renamed(names), shelf, weights=others), True)


if __name__ == "__main__":
    unittest.main()
