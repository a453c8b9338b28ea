import unittest
from itertools import combinations, permutations, product

from narrowkeys.asked import Asked
from narrowkeys.compared import alike
from narrowkeys.families import served_pairs
from narrowkeys.narrow import cost
from narrowkeys.questions import asking
from narrowkeys.shelves import Shelf
from narrowkeys.short import is_short, is_short_paper, least_alike, short_alike, short_paper
from narrowkeys.weights import Weights
from odd import Same, all_indexes, all_questions, fits, odd_values
from plain import cheapest, some_shelves, some_tables, subsets, weight_of

SHELF = Shelf([("a", "b", "c"), ("b", "a", "c"), ("a",)])
RIGHT = Shelf([("a", "b", "c"), ("b", "a")])
# The three questions of this shelf behind which something stands, or which are ends.
AB, BA, ABC = asking("a", last="b"), asking("b", last="a"), asking("a", "b", last="c")
LISTS = [[AB, BA], [AB, BA], [ABC]]
EMPTY = Shelf([])
GREATEST = 10 ** 30


def ranged(row, columns):
    """The ranged questions over columns that a list of indexes serves."""
    return [one for one in all_questions(columns) if one[1] and any(fits(index, one) for index in row)]


def searched(row, columns, table):
    """The least number and the least cost of indexes that serve the same ranged questions, by a search."""
    questions = ranged(row, columns)
    found = []
    for price in (lambda index: 1, lambda index: weight_of(index, table)):
        choices = []
        for index in all_indexes(columns):
            mine = ranged([index], columns)
            if set(mine) <= set(questions):
                choices.append((sum(1 << questions.index(one) for one in mine), price(index)))
        found.append(cheapest({0: 0}, choices)[(1 << len(questions)) - 1])
    return tuple(found)


def leading(questions):
    """The set of the pairs of ranged questions of which the first one leads to the second one, another one."""
    pairs = {(one, other) for one in questions for other in questions if other[0] == tuple(sorted([*one[0], one[1]]))}
    for middle, one, other in product(questions, repeat=3):
        if (one, middle) in pairs and (middle, other) in pairs:
            pairs.add((one, other))
    return pairs


def apart(questions, pairs):
    return not any(pair in pairs for pair in permutations(questions, 2))


class ShortTest(unittest.TestCase):
    def check_shelf(self, shelf, numbers, table, other, **told):
        self.assertIsInstance(other, Shelf)
        self.assertIs(alike(other, shelf), True)
        self.assertEqual(numbers, (len(other), sum(weight_of(index, table) for index in other)))
        self.assertIs(is_short(shelf, other, **told), True)

    def check(self, shelf, numbers, table, counts=None, **told):
        """counts tells for each level how many questions there are at the most, if it is told."""
        found = least_alike(shelf, **told)
        self.assertEqual([tuple, numbers], [type(found), found])
        self.check_shelf(shelf, numbers, table, short_alike(shelf, **told), **told)
        paper = short_paper(shelf, **told)
        self.assertEqual([tuple, 2], [type(paper), len(paper)])
        other, lists = paper
        self.check_shelf(shelf, numbers, table, other, **told)
        questions = served_pairs(shelf)
        pairs, found = leading(questions), sorted({weight_of(question, table) for question in questions})
        self.assertEqual([list, len(found)], [type(lists), len(lists)])
        for at, (level, one) in enumerate(zip(found, lists)):
            self.assertEqual([list, sorted(set(one))], [type(one), one])
            self.assertTrue(all(question in questions and weight_of(question, table) >= level for question in one))
            self.assertTrue(apart(one, pairs))
            if counts is not None:
                self.assertEqual(counts[at], len(one))
        total = sum((level - ahead) * len(one) for level, ahead, one in zip(found, [0, *found], lists))
        self.assertEqual(numbers[1], total)
        self.assertIs(is_short_paper(shelf, paper, **told), True)

    def check_by_search(self, row, columns, table, **told):
        questions = ranged(row, columns)
        pairs, found = leading(questions), sorted({weight_of(question, table) for question in questions})
        counts = None
        if len(questions) < 11:
            heavy = [[one for one in questions if weight_of(one, table) >= level] for level in found]
            counts = [max(len(part) for part in subsets(some) if apart(part, pairs)) for some in heavy]
        self.check(Shelf(row), searched(row, columns, table), table, counts, **told)

    def test_the_printed_answer(self):
        self.assertEqual((2, 5), least_alike(SHELF))
        self.check(SHELF, (2, 5), {}, [2, 2, 1])
        self.check(SHELF, (2, 5), {}, [2, 2, 1], weights=None)
        self.check(SHELF, (2, 13), {"a": 5}, weights=Weights({"a": 5}))

    def test_all_by_a_search(self):
        for row, table in zip(some_shelves(80, 5), some_tables(81)):
            self.check_by_search(row, "abc", {})
            self.check_by_search(row, "abc", table, weights=Weights(table))
        for row, table in zip(some_shelves(25, 4, "abcd"), some_tables(26, "abcd")):
            self.check_by_search(row, "abcd", table, weights=Weights(table))

    def test_no_indexes(self):
        for told in ({}, {"weights": None}, {"weights": Weights({"a": 7})}):
            self.assertEqual([(0, 0), EMPTY, (EMPTY, [])],
                             [least_alike(EMPTY, **told), short_alike(EMPTY, **told), short_paper(EMPTY, **told)])
            self.assertEqual([True, False], [is_short(EMPTY, one, **told) for one in (EMPTY, SHELF)])
            self.assertIs(is_short_paper(EMPTY, (EMPTY, []), **told), True)
            for wrong in ((EMPTY, [[]]), (EMPTY, ()), [EMPTY, []], (SHELF, [])):
                self.assertIs(is_short_paper(EMPTY, wrong, **told), False)

    def test_indexes_of_one_column(self):
        self.check(Shelf([("a",)]), (1, 1), {}, [1])
        self.check(Shelf([("a",)] * 48), (1, GREATEST), {"a": GREATEST}, [1], weights=Weights({"a": GREATEST}))
        letters = "abcdefghijklmnopqrstuvwxyz"
        self.check(Shelf([(one,) for one in letters]), (26, 26), {}, [26])
        self.check(Shelf([(one,) for one in letters]), (26, 34), {"m": 9}, [26, 1], weights=Weights({"m": 9}))

    def test_equal_indexes_and_beginnings_of_others_in_any_order(self):
        for row in permutations([("a", "b", "c"), ("a", "b"), ("a",), ("a", "b", "c"), ("a",)], 5):
            self.check(Shelf(row), (1, 3), {}, [1, 1, 1])
        for row in permutations([("b", "a"), ("a", "b", "c"), ("b",), ("b", "a", "c")]):
            self.check(Shelf(row), (2, 5), {}, [2, 2, 1])

    def test_parts_are_put_together_anew(self):
        # What stands behind a and b can change places.
        row = [("a", "b", "c"), ("b", "a", "d"), ("a", "b", "d", "c")]
        self.check_by_search(row, "abcd", {})
        self.check(Shelf([("a", "b", "c", "d"), ("b", "a", "c"), ("a", "b", "d", "c"), ("b", "a", "d", "c")]),
                   (2, 8), {}, [2, 2, 2, 2])
        # The range over d behind a, b and c needs to stand but once.
        row = [("a", "b"), ("b", "a"), ("c", "a", "b", "d"), ("a", "b", "c", "d")]
        self.check(Shelf(row), (3, 9), {}, [3, 3, 2, 1])
        self.check_by_search(row, "abcd", {})

    def test_a_heavy_index_goes_as_seldom_as_possible(self):
        row = [("a", "b", "x"), ("b", "a", "y"), ("a", "b", "y")]
        self.check(Shelf(row), (2, 6), {})
        self.check(Shelf(row), (2, 4 + 2 * GREATEST), {"x": GREATEST, "y": GREATEST}, [2, 2, 2],
                   weights=Weights({"x": GREATEST, "y": GREATEST}))

    def test_one_leads_to_another_one_over_several(self):
        row = [("a", "b", "c", "d"), ("b", "a", "c"), ("c", "a", "b")]
        pairs = leading(ranged(row, "abcd"))
        self.assertIn((asking(last="b"), asking("a", "b", "c", last="d")), pairs)
        self.assertNotIn((asking(last="c"), asking("a", "b", last="c")), pairs)
        self.check_by_search(row, "abcd", {})
        # A question that the other one is not below, though it asks more, is not led to.
        self.check(Shelf([("a", "b"), ("c", "a", "b", "d")]), (2, 6), {}, [2, 2, 1, 1])

    def test_forty_eight_ranged_questions(self):
        columns = "abcdefghijkl"
        table = {column: GREATEST for column in columns}
        turned = [tuple(columns[at:] + columns[:at])[:4] for at in range(12)]
        self.assertEqual(48, len(served_pairs(Shelf(turned))))
        self.check(Shelf(turned * 4), (12, 48), {}, [12] * 4)
        self.check(Shelf(turned * 4), (12, 48 * GREATEST), table, [12] * 4, weights=Weights(table))
        four = [tuple(columns), tuple(columns[::-1]), tuple(columns[6:] + columns[:6]), tuple("lakbjcidhegf")]
        questions = served_pairs(Shelf(four))
        self.assertTrue(44 < len(questions) <= 48)
        row = [index[:many] for index in four for many in range(1, 13)]
        numbers = least_alike(Shelf(four))
        self.check(Shelf(row), numbers, {})
        self.check(Shelf(row[::-1]), numbers, {})
        self.assertEqual((4, numbers[1]), numbers)

    def test_many_ways_through_equal_columns(self):
        # Two halves, each in six orders: 24 questions with 6 * 6 ways from the beginning to an end.
        halves = [(*front, *back) for front, back in zip(permutations("abc"), permutations("def"))]
        self.assertEqual(24, len(served_pairs(Shelf(halves))))
        self.check(Shelf(halves), (6, 33), {}, [6, 6, 6, 6, 6, 3])
        self.check(Shelf([*halves, ("a", "b", "c", "f", "e", "d"), ("c", "b", "a", "d", "e", "f")]), (6, 33), {})

    def test_more_than_forty_eight_ranged_questions(self):
        rows = [tuple(part) for part in permutations("abcd")]
        self.assertEqual(32, len(served_pairs(Shelf(rows))))
        self.check(Shelf(rows), (12, 40), {}, [12, 12, 12, 4])
        rows = [tuple("abcde"[at:] + "abcde"[:at]) for at in range(5)] + [tuple("edcba"[at:] + "edcba"[:at]) for at in range(5)]
        rows = rows + [tuple(part) for part in permutations("fgh")]
        self.assertGreater(len(served_pairs(Shelf(rows))), 48)
        self.check(Shelf(rows), least_alike(Shelf(rows)), {})

    def test_is_short_by_a_search(self):
        indexes = all_indexes("ab")
        for row, table in zip(some_shelves(25, 3, "ab"), some_tables(26, "ab")):
            weights = Weights(table)
            plain, heavy = searched(row, "ab", {})[1], searched(row, "ab", table)[1]
            for many in range(4):
                for thing in product(indexes, repeat=many):
                    same = ranged(row, "ab") == ranged(thing, "ab")
                    self.assertIs(is_short(Shelf(row), Shelf(thing)), same and sum(map(len, thing)) == plain)
                    paid = sum(weight_of(index, table) for index in thing)
                    self.assertIs(is_short(Shelf(row), Shelf(thing), weights=weights), same and paid == heavy)

    def test_is_short_paper_by_a_search(self):
        row = [("a", "b"), ("b", "a"), ("a",)]
        questions = ranged(row, "ab")
        pairs, table = leading(questions), {"a": 2, "b": 2}
        lists = [list(part) for many in range(3) for part in product(questions, repeat=many)]
        shelves = [list(part) for many in range(4) for part in product(all_indexes("ab"), repeat=many)]
        for told, some, found in (({}, {}, [1, 2]), ({"weights": Weights(table)}, table, [2, 4])):
            for thing, low, high in product(shelves, lists, lists):
                right = ranged(thing, "ab") == questions and low == sorted(set(low)) and high == sorted(set(high))
                right = right and apart(low, pairs) and apart(high, pairs)
                right = right and all(weight_of(one, some) >= found[1] for one in high)
                total = found[0] * len(low) + (found[1] - found[0]) * len(high)
                right = right and sum(weight_of(index, some) for index in thing) == total
                self.assertIs(is_short_paper(Shelf(row), (Shelf(thing), [low, high]), **told), right)

    def test_any_value_may_be_no_such_shelf(self):
        self.assertIs(is_short(SHELF, RIGHT), True)
        self.assertIs(is_short(SHELF, Shelf([("b", "a", "c"), ("a", "b")])), True)
        for told in ({}, {"weights": Weights({"a": 5})}):
            for thing in [*odd_values(), RIGHT.indexes(), tuple(RIGHT), [RIGHT], (RIGHT,), Asked([AB]), short_alike]:
                self.assertIs(is_short(SHELF, thing, **told), False)
            for wrong in ([("a", "b", "c"), ("b", "a", "c")], [("a", "b", "c"), ("b",)], [("a", "b", "c")], [],
                          [("a", "b", "c"), ("b", "a"), ("a",)], [("a", "b", "d"), ("b", "a")],
                          [("a", "b"), ("b", "a"), ("c",)], [("c", "b", "a"), ("a", "b")], [("a", "b", "c", "x"), ("b",)]):
                self.assertIs(is_short(SHELF, Shelf(wrong), **told), False)
        self.assertIs(is_short(EMPTY, Same()), False)

    def test_a_shelf_that_is_asked_about_may_be_large(self):
        letters = "abcdefghijklmnopqrstuvwxyz"
        many = [one + other + last for one in letters for other in letters for last in letters][:17000]
        weights = Weights({"b": 17001 - 1})
        self.assertEqual(cost(Shelf([("a", "b")]), weights=weights), cost(Shelf([("a", *many)]), weights=weights))
        for shelf in (Shelf([("a", "b")]), SHELF, EMPTY):
            self.assertIs(is_short(shelf, Shelf([("a", *many)]), weights=weights), False)
            self.assertIs(is_short_paper(shelf, (Shelf([("a", *many)]), [[], []]), weights=weights), False)
        self.assertIs(is_short(SHELF, Shelf([("a", "b", "c")] * 48)), False)

    def test_any_value_may_be_no_short_paper(self):
        right = RIGHT, LISTS
        self.assertIs(is_short_paper(SHELF, right), True)
        for thing in [*odd_values(), SHELF, asking("a"), asking("c", last="a")]:
            for wrong in (thing, (RIGHT, thing), (thing, LISTS), (RIGHT, [*LISTS[:2], thing]), (RIGHT, [*LISTS, thing]),
                          (RIGHT, LISTS, thing), (RIGHT, [*LISTS[:2], [thing]]), (RIGHT, [[AB, thing], *LISTS[1:]]),
                          (RIGHT, [[thing, BA], *LISTS[1:]]), (RIGHT, [[AB, BA, thing], *LISTS[1:]])):
                self.assertIs(is_short_paper(SHELF, wrong), False)
        for wrong in ([RIGHT, LISTS], (RIGHT, tuple(LISTS)), (RIGHT, [(AB, BA), *LISTS[1:]]), (RIGHT, LISTS[:2]), (RIGHT, []),
                      (RIGHT, [[BA, AB], *LISTS[1:]]), (RIGHT, [[AB, AB], *LISTS[1:]]), (RIGHT, [*LISTS, []]),
                      (RIGHT, [[AB, ABC], *LISTS[1:]]), (RIGHT, [LISTS[0], [((), "a"), BA], LISTS[2]]), (LISTS, RIGHT),
                      (RIGHT, [*LISTS[:2], [BA]]), (RIGHT, [[AB, list(BA)], *LISTS[1:]]), (RIGHT,), (),
                      (RIGHT, [LISTS[0], [ABC], LISTS[2]]), (SHELF, LISTS), (RIGHT + Shelf([("a",)]), LISTS),
                      (Shelf([("a", "b", "c"), ("b",)]), LISTS), (RIGHT, [[AB, BA]] * 10000)):
            self.assertIs(is_short_paper(SHELF, wrong), False)
        self.assertIs(is_short_paper(SHELF, (RIGHT, [[((), "a"), ((), "b")], *LISTS[1:]])), True)
        self.assertIs(is_short_paper(SHELF, (Shelf([("b", "a", "c"), ("a", "b")]), LISTS)), True)
        self.assertIs(is_short_paper(SHELF, right, weights=Weights({"c": 2})), True)
        self.assertIs(is_short_paper(SHELF, right, weights=Weights({"b": 2})), False)

    def test_told_lists_are_new(self):
        other, lists = short_paper(SHELF)
        self.assertEqual(len(lists), len({id(one) for one in lists}))
        lists[0].append(None)
        lists.append(None)
        self.assertIs(is_short_paper(SHELF, (other, lists)), False)
        self.assertIs(is_short_paper(SHELF, short_paper(SHELF)), True)
        self.assertEqual(Shelf([("a", "b", "c"), ("b", "a", "c"), ("a",)]), SHELF)

    def test_two_weights_in_turn_that_are_changed(self):
        one, other = Weights({"c": 2}), Weights({"a": GREATEST})
        copy = one.copied()
        for _ in range(2):
            self.assertEqual([(2, 6), (2, 2 * GREATEST + 3), (2, 5)],
                             [least_alike(SHELF, weights=weights) for weights in (one, other, None)])
        one["c"] = 9
        other["a"] = 1
        self.assertEqual([(2, 13), (2, 5), (2, 6)],
                         [least_alike(SHELF, weights=weights) for weights in (one, other, copy)])
        self.assertEqual([{"c": 9}, {}, {"c": 2}], [one.table(), other.table(), copy.table()])

    def test_asked_twice_and_in_another_order(self):
        for row, table in zip(some_shelves(30, 6), some_tables(31)):
            shelf, weights = Shelf(row), Weights(table)
            same = Weights({column: table[column] for column in list(table)[::-1]})
            for _ in range(2):
                self.assertEqual(short_alike(shelf, weights=weights), short_alike(Shelf(tuple(row)), weights=same))
                self.assertEqual(short_paper(shelf, weights=weights), short_paper(Shelf(tuple(row)), weights=same))
            turned = Shelf(row[::-1])
            self.assertEqual(least_alike(shelf, weights=weights), least_alike(turned, weights=weights))
            self.assertIs(is_short(turned, short_alike(shelf, weights=weights), weights=weights), True)
            self.assertEqual([Shelf(row), Weights(table)], [shelf, weights])

    def test_without_weights_each_column_weighs_one(self):
        for row in some_shelves(20, 5):
            for told in ({"weights": None}, {"weights": Weights({})}, {"weights": Weights({"a": 1})}):
                self.assertEqual(least_alike(Shelf(row)), least_alike(Shelf(row), **told))
                self.assertEqual(short_paper(Shelf(row)), short_paper(Shelf(row), **told))

    def test_other_names_give_the_same_answers(self):
        names = {"a": "c", "b": "x", "c": "a"}
        for row, table in zip(some_shelves(40, 5), some_tables(41)):
            shelf, weights = Shelf(row), Weights(table)
            others = Weights({names[column]: table[column] for column in table})
            self.assertEqual(least_alike(shelf, weights=weights), least_alike(shelf.renamed(names), weights=others))
            other = short_alike(shelf, weights=weights).renamed(names)
            self.assertIs(is_short(shelf.renamed(names), other, weights=others), True)

    def test_shelves_that_serve_many_questions_of_few_columns(self):
        wide = [tuple(part) for part in permutations("abcd")]
        for some in combinations(range(0, 24, 5), 3):
            self.check_by_search([wide[at] for at in some], "abcd", {})


if __name__ == "__main__":
    unittest.main()
