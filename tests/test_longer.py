import unittest
from itertools import combinations, permutations, product

from narrowkeys.asked import Asked
from narrowkeys.levels import least_cost, levels
from narrowkeys.longer import is_led_on, is_led_paper, least_added, led_on, led_paper
from narrowkeys.narrow import cost, narrow_paper
from narrowkeys.questions import asking
from narrowkeys.shelves import Shelf
from narrowkeys.weights import Weights
from odd import Same, all_indexes, fits, odd_values
from plain import (
    cheapest, mask_of, partitions, some_questions, some_shelves, some_tables, subsets, under, weight_of,
)

NEAR, LATE, BOTH, NAME = asking("city"), asking("city", last="born"), asking("name", "city"), asking("name")
ASKED = Asked([LATE, NEAR, BOTH, NAME])
SHELF = Shelf([("city", "born"), ("name",)])
RIGHT = Shelf([("city", "born"), ("name", "city")])
LISTS = [([BOTH], [0]), ([BOTH], [0])]
NOTHING, EMPTY = Asked([]), Shelf([])
GREATEST = 10 ** 30


def searched(questions, standing, columns, table):
    """What all indexes cost more at the least, by a search through all that each index can be lengthened to."""
    best = {0: 0}
    for front in standing:
        after = {}
        for index in all_indexes(columns):
            if index[:len(front)] == front:
                more = weight_of(index, table) - weight_of(front, table)
                for served, paid in best.items():
                    key = served | mask_of(index, questions)
                    after[key] = min(after.get(key, paid + more), paid + more)
        best = after
    further = [(mask_of(index, questions), weight_of(index, table)) for index in all_indexes(columns)]
    return cheapest(best, further)[(1 << len(questions)) - 1]


def things_of(questions, standing):
    """The questions that standing does not serve, and the numbers of standing: as tuples (kind, thing)."""
    rest = [question for question in questions if not any(fits(index, question) for index in standing)]
    return [*[("asked", question) for question in rest], *[("stands", number) for number in range(len(standing))]]


def weight(thing, standing, table):
    kind, one = thing
    return weight_of(one if kind == "asked" else standing[one], table)


def stands_under(low, high, standing):
    if high[0] == "stands":
        return False
    if low[0] == "stands":
        return set(standing[low[1]]) <= set(high[1][0])
    return under(low[1], high[1])


def apart(things, standing):
    return not any(stands_under(low, high, standing) for low, high in permutations(things, 2))


def most_apart(things, standing):
    return max(len(part) for part in subsets(things) if apart(part, standing))


def laid_sum(things, standing, table):
    """The least sum of the weights of the tops of all ways to lay things in chains."""
    sums = []
    for parts in partitions(things):
        rows = [sorted(part, key=lambda thing: sum(stands_under(one, thing, standing) for one in part)) for part in parts]
        if all(stands_under(low, high, standing) for row in rows for low, high in zip(row, row[1:])):
            sums.append(sum(weight(row[-1], standing, table) for row in rows))
    return min(sums)


class LongerTest(unittest.TestCase):
    def check_shelf(self, asked, standing, paid, table, shelf, **told):
        self.assertIsInstance(shelf, Shelf)
        self.assertGreaterEqual(len(shelf), len(standing))
        for front, index in zip(standing, shelf):
            self.assertEqual(front, index[:len(front)])
        for question in asked:
            self.assertTrue(any(fits(index, question) for index in shelf))
        more = sum(weight_of(index, table) for index in shelf) - sum(weight_of(index, table) for index in standing)
        self.assertEqual(paid, more)
        self.assertIs(is_led_on(asked, standing, shelf, **told), True)

    def check(self, asked, standing, paid, table, counts=None, **told):
        """counts tells for each level how many things are apart at the most, if it is told."""
        self.assertEqual(paid, least_added(asked, standing, **told))
        self.check_shelf(asked, standing, paid, table, led_on(asked, standing, **told), **told)
        paper = led_paper(asked, standing, **told)
        self.assertEqual([tuple, 2], [type(paper), len(paper)])
        shelf, lists = paper
        self.check_shelf(asked, standing, paid, table, shelf, **told)
        row, things = standing.indexes(), things_of(asked.questions(), standing.indexes())
        found = sorted({weight(thing, row, table) for thing in things})
        self.assertEqual([list, len(found)], [type(lists), len(lists)])
        for at, (level, one) in enumerate(zip(found, lists)):
            self.assertEqual([tuple, list, list], [type(one), type(one[0]), type(one[1])])
            some = [*[("asked", question) for question in one[0]], *[("stands", number) for number in one[1]]]
            self.assertEqual([sorted(set(one[0])), sorted(set(one[1]))], list(one))
            self.assertTrue(all(thing in things and weight(thing, row, table) >= level for thing in some))
            self.assertTrue(apart(some, row))
            if counts is not None:
                self.assertEqual(counts[at], len(some))
        steps = [level - ahead for level, ahead in zip(found, [0, *found])]
        total = sum(step * (len(one[0]) + len(one[1])) for step, one in zip(steps, lists))
        self.assertEqual(total, sum(weight_of(index, table) for index in shelf))
        self.assertIs(is_led_paper(asked, standing, paper, **told), True)

    def check_by_search(self, questions, row, columns, table, **told):
        things = things_of(questions, row)
        found = sorted({weight(thing, row, table) for thing in things})
        counts = [most_apart([thing for thing in things if weight(thing, row, table) >= level], row) for level in found]
        self.check(Asked(questions), Shelf(row), searched(questions, row, columns, table), table, counts, **told)

    def test_the_printed_answers(self):
        self.assertEqual([1, [("city", "born"), ("name", "city")]],
                         [least_added(ASKED, SHELF), list(led_on(ASKED, SHELF))])
        self.check(ASKED, SHELF, 1, {}, [2, 2])
        self.check(ASKED, SHELF, 5, {"city": 5}, [2, 2], weights=Weights({"city": 5}))

    def test_all_by_a_search(self):
        for questions, row, table in zip(some_questions(80, 5), some_shelves(80, 3), some_tables(81)):
            self.check_by_search(questions, row, "abc", {})
            self.check_by_search(questions, row, "abc", {}, weights=None)
            self.check_by_search(questions, row, "abc", table, weights=Weights(table))
        rows = zip(some_questions(8, 4, "abcd", seed=71), some_shelves(8, 3, "abcd", seed=72), some_tables(9, "abcd"))
        for questions, row, table in rows:
            self.check_by_search(questions, row, "abcd", table, weights=Weights(table))

    def test_all_by_a_search_through_all_ways_to_lay_them(self):
        for questions, row, table in zip(some_questions(60, 4), some_shelves(60, 3), some_tables(61)):
            for some, told in (({}, {}), (table, {"weights": Weights(table)})):
                total = laid_sum(things_of(questions, row), row, some)
                paid = total - sum(weight_of(index, some) for index in row)
                self.check(Asked(questions), Shelf(row), paid, some, **told)

    def test_no_questions_and_no_indexes(self):
        for told, table in (({}, {}), ({"weights": None}, {}), ({"weights": Weights({"city": 7})}, {"city": 7})):
            self.assertEqual([0, EMPTY, (EMPTY, [])], [least_added(NOTHING, EMPTY, **told), led_on(NOTHING, EMPTY, **told),
                                                       led_paper(NOTHING, EMPTY, **told)])
            self.assertIs(is_led_on(NOTHING, EMPTY, EMPTY, **told), True)
            self.assertIs(is_led_on(NOTHING, EMPTY, SHELF, **told), False)
            self.assertIs(is_led_paper(NOTHING, EMPTY, (EMPTY, []), **told), True)
            self.assertIs(is_led_paper(NOTHING, EMPTY, (EMPTY, [([], [])]), **told), False)
            self.assertEqual(SHELF, led_on(NOTHING, SHELF, **told))
            self.check(NOTHING, SHELF, 0, table, [2, 1], **told)
            self.check(ASKED, EMPTY, least_cost(ASKED, **told), table, [many for _, many in levels(ASKED, **told)], **told)
            shelf, lists = narrow_paper(ASKED, **told)
            self.assertIs(is_led_on(ASKED, EMPTY, shelf, **told), True)
            self.assertIs(is_led_paper(ASKED, EMPTY, (shelf, [(one, []) for one in lists]), **told), True)

    def test_standing_indexes_that_serve_all_none_and_some(self):
        self.check(ASKED, RIGHT, 0, {}, [2])
        self.assertEqual(RIGHT, led_on(ASKED, RIGHT))
        self.check(ASKED, Shelf([("city", "name", "x"), ("name",), ("city", "born", "name")]), 0, {})
        self.check(ASKED, Shelf([("born", "city"), ("x",)]), 4, {})
        self.check(ASKED, Shelf([("city",)]), 3, {})
        self.check(ASKED, Shelf([("city", "name")]), 3, {})
        self.check(ASKED, Shelf([("x",), ("name",), ("y", "city")]), 3, {})

    def test_equal_indexes_are_two_things(self):
        asked = Asked([asking("a", "b"), asking("a", "c"), asking("a", "d")])
        for many, paid in enumerate([6, 5, 4, 3, 3]):
            self.check(asked, Shelf([("a",)] * many), paid, {}, [max(many, 3), 3])
        self.assertEqual([2, 2, 2, 1], sorted([len(index) for index in led_on(asked, Shelf([("a",)] * 4))], reverse=True))
        self.assertIs(is_led_paper(Asked([asking("b")]), Shelf([("a",)] * 2),
                                   (Shelf([("a",), ("a",), ("b",)]), [([asking("b")], [0, 1])])), True)

    def test_an_index_that_is_the_beginning_of_another_one(self):
        asked = Asked([asking("a", "b"), asking("a", "b", "c", last="d")])
        for row in permutations([("a",), ("a", "b"), ("a", "b", "c")]):
            self.check(asked, Shelf(row), 1, {}, [3, 2, 1, 1])
        self.check(asked, Shelf([("a",), ("a", "c")]), 3, {})
        self.check(asked, Shelf([("a",), ("a", "b", "d")]), 3, {})
        self.check(asked, Shelf([("a", "d"), ("b", "a", "c", "d")]), 0, {})

    def test_columns_that_several_questions_ask_by_equality(self):
        # The index can be lengthened for each of three questions: the one whose place is dear goes first.
        asked = Asked([asking("a", "b"), asking("a", "c"), asking("a", last="d")])
        self.check(asked, Shelf([("a",)]), 5, {})
        self.check(asked, Shelf([("a",)]), 1 + 1 + 9 + 9 + 4, {"a": 9, "d": 4}, weights=Weights({"a": 9, "d": 4}))
        self.assertEqual(("a",), led_on(asked, Shelf([("a",)]))[0][:1])
        chain = Asked([asking("a", "b"), asking("a", "b", last="c"), asking("a", "b", "c", "d")])
        self.check(chain, Shelf([("b",)]), 3, {})
        self.assertEqual([("b", "a", "c", "d")], list(led_on(chain, Shelf([("b",)]))))

    def test_a_heavy_index_above_no_question(self):
        asked, table = Asked([asking("a"), asking("a", "b")]), {"c": GREATEST}
        self.check(asked, Shelf([("c", "a")]), 2, table, [2, 2, 1], weights=Weights(table))
        self.check(asked, Shelf([("a", "c")]), 2, table, weights=Weights(table))

    def test_is_led_on_by_a_search(self):
        indexes = all_indexes("ab")
        for questions, row, table in zip(some_questions(20, 5, "ab"), some_shelves(20, 2, "ab"), some_tables(21, "ab")):
            asked, standing, weights = Asked(questions), Shelf(row), Weights(table)
            plain = searched(questions, row, "ab", {}) + sum(map(len, row))
            heavy = searched(questions, row, "ab", table) + sum(weight_of(index, table) for index in row)
            for many in range(4):
                for thing in product(indexes, repeat=many):
                    right = many >= len(row) and all(one[:len(front)] == front for front, one in zip(row, thing))
                    right = right and all(any(fits(index, one) for index in thing) for one in questions)
                    self.assertIs(is_led_on(asked, standing, Shelf(thing)), right and sum(map(len, thing)) == plain)
                    paid = sum(weight_of(index, table) for index in thing)
                    self.assertIs(is_led_on(asked, standing, Shelf(thing), weights=weights), right and paid == heavy)

    def test_is_led_paper_by_a_search(self):
        asked, row = Asked([asking("a", "b"), asking("b"), asking("a", last="b")]), [("a",), ("b", "a")]
        table = {"a": 2, "b": 1}
        rest = [asking("a", last="b")]
        self.assertEqual([("asked", rest[0]), ("stands", 0), ("stands", 1)], things_of(asked.questions(), row))
        lists = [(one, other) for one in ([], rest, rest * 2) for size in range(3) for other in
                 (list(part) for part in product([0, 1], repeat=size))]
        shelves = [list(part) for many in range(4) for part in product(all_indexes("ab"), repeat=many)]
        for told, some, found in (({}, {}, [1, 2]), ({"weights": Weights(table)}, table, [2, 3])):
            for shelf, low, high in product(shelves, lists, lists):
                right = len(shelf) > 1 and shelf[0][:1] == ("a",) and shelf[1] == ("b", "a")
                right = right and all(any(fits(index, one) for index in shelf) for one in asked)
                for level, (one, other) in zip(found, (low, high)):
                    things = [*[("asked", question) for question in one], *[("stands", number) for number in other]]
                    right = right and len(set(things)) == len(things) and other == sorted(other)
                    right = right and all(weight(thing, row, some) >= level for thing in things) and apart(things, row)
                total = found[0] * sum(map(len, low)) + (found[1] - found[0]) * sum(map(len, high))
                right = right and sum(weight_of(index, some) for index in shelf) == total
                self.assertIs(is_led_paper(asked, Shelf(row), (Shelf(shelf), [low, high]), **told), right)

    def test_any_value_may_be_no_led_on_shelf(self):
        self.assertIs(is_led_on(ASKED, SHELF, RIGHT), True)
        for told in ({}, {"weights": Weights({"city": 5})}):
            for thing in [*odd_values(), RIGHT.indexes(), tuple(RIGHT), [RIGHT], (RIGHT,), ASKED, led_on]:
                self.assertIs(is_led_on(ASKED, SHELF, thing, **told), False)
            for wrong in ([("name", "city"), ("city", "born")], [("city", "born")], [("name", "city")], [],
                          [("city", "born"), ("name", "city"), ("x",)], [("city", "born", "x"), ("name", "city")],
                          [("city", "born"), ("name", "born")], [("city", "name"), ("name", "city")], SHELF.indexes(),
                          [("city", "born"), ("name",), ("name", "city")], [("born", "city"), ("name", "city")]):
                self.assertIs(is_led_on(ASKED, SHELF, Shelf(wrong), **told), False)
        self.assertIs(is_led_on(NOTHING, EMPTY, Same()), False)

    def test_a_shelf_of_fewer_indexes_is_not_led_on(self):
        asked, standing = Asked([asking("a", "b")]), Shelf([("a",), ("b",)])
        self.assertIs(is_led_on(asked, standing, Shelf([("a", "b"), ("b",)])), True)
        for wrong in ([("a", "b", "c")], [("b", "a", "c")], [("a", "b")]):
            self.assertIs(is_led_on(asked, standing, Shelf(wrong)), False)
            self.assertIs(is_led_paper(asked, standing, (Shelf(wrong), led_paper(asked, standing)[1])), False)

    def test_a_shelf_that_is_asked_about_may_be_large(self):
        letters = "abcdefghijklmnopqrstuvwxyz"
        many = [first + second for first in letters for second in letters]
        self.assertIs(is_led_on(ASKED, SHELF, Shelf([("city", "born", *many), ("name", "city")])), False)
        self.assertIs(is_led_on(ASKED, SHELF, RIGHT + Shelf([("x",)] * 46)), False)

    def test_any_value_may_be_no_led_paper(self):
        right = RIGHT, LISTS
        self.assertIs(is_led_paper(ASKED, SHELF, right), True)
        for thing in odd_values():
            for wrong in (thing, (RIGHT, thing), (thing, LISTS), (RIGHT, [LISTS[0], thing]), (RIGHT, [*LISTS, thing]),
                          (RIGHT, LISTS, thing), (RIGHT, [LISTS[0], ([BOTH], thing)]), (RIGHT, [LISTS[0], (thing, [0])]),
                          (RIGHT, [LISTS[0], ([thing], [0])]), (RIGHT, [LISTS[0], ([BOTH, thing], [0])]),
                          (RIGHT, [LISTS[0], ([BOTH], [0], thing)])):
                self.assertIs(is_led_paper(ASKED, SHELF, wrong), False)
            if not isinstance(thing, int) or isinstance(thing, bool) or thing != 0:
                for wrong in ([thing], [0, thing], [thing, 0]):
                    self.assertIs(is_led_paper(ASKED, SHELF, (RIGHT, [LISTS[0], ([BOTH], wrong)])), False)

    def test_papers_with_something_otherwise(self):
        for wrong in ([RIGHT, LISTS], (RIGHT, tuple(LISTS)), (RIGHT, [list(LISTS[0]), LISTS[1]]), (RIGHT, LISTS[:1]),
                      (RIGHT, [((BOTH,), [0]), LISTS[1]]), (RIGHT, [([BOTH], (0,)), LISTS[1]]), (RIGHT, [*LISTS, ([], [])]),
                      (RIGHT, [([BOTH], [False]), LISTS[1]]), (RIGHT, [([BOTH], [True]), LISTS[1]]), (RIGHT, []),
                      (RIGHT, [([BOTH], [0, 0]), ([BOTH], [])]), (RIGHT, [([BOTH, BOTH], [0]), ([], [0])]),
                      (RIGHT, [([BOTH], [0, 1]), ([BOTH], [])]), (RIGHT, [([], [0, 1]), ([BOTH], [0])][::-1]),
                      (RIGHT, [([BOTH], [0]), ([BOTH], [2])]), (RIGHT, [([BOTH], [0]), ([BOTH], [-2])]),
                      (RIGHT, [([LATE], [0]), LISTS[1]]), (RIGHT, [([BOTH], [0]), ([BOTH], [1])]),
                      (RIGHT, [([], [1, 0]), LISTS[1]]), (SHELF, LISTS), (SHELF, [([BOTH], [0]), ([BOTH], [])]),
                      (RIGHT, [([BOTH], [0]), ([], [0])]), (RIGHT + Shelf([("x",)]), LISTS), (LISTS, RIGHT), (RIGHT,), ()):
            self.assertIs(is_led_paper(ASKED, SHELF, wrong), False)
        # The two indexes are apart, too, and weigh at least 1.
        self.assertIs(is_led_paper(ASKED, SHELF, (RIGHT, [([], [0, 1]), LISTS[1]])), True)
        self.assertIs(is_led_paper(ASKED, SHELF, (RIGHT, LISTS), weights=Weights({"city": 5})), True)
        self.assertIs(is_led_paper(ASKED, SHELF, (RIGHT, LISTS), weights=Weights({"born": 5})), False)
        self.assertIs(is_led_paper(ASKED, SHELF, (RIGHT, [([BOTH], [0])] * 2), weights=Weights({"name": 2})), False)

    def test_papers_that_are_checked_stay_as_they_are(self):
        shelf, lists = led_paper(ASKED, SHELF)
        is_led_paper(ASKED, SHELF, (shelf, lists))
        self.assertEqual(led_paper(ASKED, SHELF), (shelf, lists))
        lists[0][0].append(None)
        lists[0][1].clear()
        lists.append(None)
        self.assertIs(is_led_paper(ASKED, SHELF, (shelf, lists)), False)
        self.assertIs(is_led_paper(ASKED, SHELF, led_paper(ASKED, SHELF)), True)
        _, lists = led_paper(ASKED, Shelf([("x",), ("x", "y")]))
        inner = [one for pair in lists for one in pair]
        self.assertEqual(len(inner), len({id(one) for one in inner}))

    def test_two_weights_in_turn_that_are_changed(self):
        one, other = Weights({"city": 2}), Weights({"name": GREATEST})
        copy = one.copied()
        for _ in range(2):
            self.assertEqual([2, 1, 1], [least_added(ASKED, SHELF, weights=weights) for weights in (one, other, None)])
        one["city"] = 9
        other["name"] = 1
        self.assertEqual([9, 1, 2], [least_added(ASKED, SHELF, weights=weights) for weights in (one, other, copy)])
        asked, standing, weights = Asked([asking("a", "b"), asking("a", "c")]), Shelf([("a",)]), Weights({"a": 5})
        for column, number in (("b", 9), ("c", 20), ("b", 1), ("a", 1), ("c", 1)):
            weights[column] = number
            table = weights.table()
            self.check_by_search(asked.questions(), standing.indexes(), "abc", table, weights=weights)
            self.assertEqual(table, weights.table())
        self.check_by_search(asked.questions(), standing.indexes(), "abc", {})

    def test_without_weights_each_column_weighs_one(self):
        for questions, row in zip(some_questions(20, 7), some_shelves(20, 4)):
            asked, standing = Asked(questions), Shelf(row)
            for told in ({"weights": None}, {"weights": Weights({})}, {"weights": Weights({"a": 1})}):
                self.assertEqual(least_added(asked, standing), least_added(asked, standing, **told))
                self.assertEqual(led_on(asked, standing), led_on(asked, standing, **told))
                self.assertEqual(led_paper(asked, standing), led_paper(asked, standing, **told))

    def test_forty_eight_together_over_twelve_columns(self):
        columns = "abcdefghijkl"
        table = {column: GREATEST for column in columns}
        wide = [asking(*part) for part in combinations(columns, 6)][::19][:24]
        halves = Shelf([question[0][:3] for question in wide])
        self.check(Asked(wide), halves, 72, {})
        self.check(Asked(wide), halves, 72 * GREATEST, table, weights=Weights(table))
        first = Shelf([("a",)] * 24)
        able = len([question for question in wide if "a" in question[0]])
        self.check(Asked(wide), first, 5 * able + 6 * (24 - able), {})
        chain = [asking(*columns[:at + 1]) for at in range(12)]
        last = [asking(*columns[:at], *columns[at + 1:], last=columns[at]) for at in range(12)]
        standing = Shelf([(column,) for column in columns] * 2)
        self.check(Asked([*chain, *last]), standing, 12 * 11, {})
        self.assertEqual(24, len(led_on(Asked([*chain, *last]), standing)))

    def test_more_than_forty_eight_things(self):
        columns = "abcdefghijkl"
        wide = [asking(*part) for part in combinations(columns, 6)][::19][:48]
        standing = Shelf([question[0][:2] for question in wide])
        self.assertEqual(48 * 4, least_added(Asked(wide), standing))
        self.assertEqual(48 * 6, cost(led_on(Asked(wide), standing)))

    def test_asked_twice_and_in_another_order(self):
        for questions, row, table in zip(some_questions(20, 8), some_shelves(20, 3), some_tables(21)):
            one, other = Asked(questions), Asked([*questions[::-1], *questions])
            weights, same = Weights(table), Weights({column: table[column] for column in list(table)[::-1]})
            for _ in range(2):
                self.assertEqual(led_on(one, Shelf(row), weights=weights), led_on(other, Shelf(tuple(row)), weights=same))
                self.assertEqual(led_paper(one, Shelf(row), weights=weights),
                                 led_paper(other, Shelf(tuple(row)), weights=same))
            self.assertEqual([Asked(questions), Weights(table)], [one, weights])

    def test_other_names_give_the_same_answers(self):
        names = {"a": "c", "b": "x", "c": "a"}
        for questions, row, table in zip(some_questions(30, 8), some_shelves(30, 3), some_tables(31)):
            asked, standing, weights = Asked(questions), Shelf(row), Weights(table)
            others = Weights({names[column]: table[column] for column in table})
            renamed = asked.renamed(names), standing.renamed(names)
            self.assertEqual(least_added(asked, standing, weights=weights), least_added(*renamed, weights=others))
            shelf = led_on(asked, standing, weights=weights).renamed(names)
            self.assertIs(is_led_on(*renamed, shelf, weights=others), True)

    def test_no_more_than_further_indexes_cost(self):
        for questions, row in zip(some_questions(30, 8), some_shelves(30, 3)):
            asked = Asked(questions)
            rest = [question for question in asked if not any(fits(index, question) for index in row)]
            self.assertLessEqual(least_added(asked, Shelf(row)), least_cost(Asked(rest)))
            self.assertEqual(least_added(Asked(rest), Shelf(row)), least_added(asked, Shelf(row)))


if __name__ == "__main__":
    unittest.main()
