import unittest
from itertools import combinations, permutations, product

from narrowkeys.asked import Asked
from narrowkeys.errors import TooMany
from narrowkeys.fewest import apart, fewest, fewest_shelf, is_apart, is_fewest
from narrowkeys.indexes import index_for
from narrowkeys.questions import asking, can_share, columns_of
from narrowkeys.serving import unserved
from narrowkeys.shelves import Shelf
from odd import Same, all_indexes, all_questions, all_share, fits, odd_values
from plain import least_price, lie_apart, most_apart, partitions, some_questions, subsets

NEAR, LATE, BOTH, NAME = asking("city"), asking("city", last="born"), asking("name", "city"), asking("name")
ASKED = Asked([LATE, NEAR, BOTH, NAME])
NOTHING = Asked([])


def price_of_one(index):
    return 1


class FewestTest(unittest.TestCase):
    def check(self, asked, many):
        self.assertEqual(many, fewest(asked))
        shelf, row = fewest_shelf(asked), apart(asked)
        self.assertIsInstance(shelf, Shelf)
        self.assertEqual([many, many, list], [len(shelf), len(row), type(row)])
        for question in asked:
            self.assertTrue(any(fits(index, question) for index in shelf))
        wholes = [columns_of(question) for question in asked]
        for index in shelf:
            self.assertIn(tuple(sorted(index)), wholes)
        self.assertEqual(sorted(set(row)), row)
        self.assertTrue(lie_apart(row))
        self.assertTrue(all(question in asked for question in row))
        self.assertIs(is_fewest(asked, shelf), True)
        self.assertIs(is_apart(asked, row), True)

    def test_the_printed_answers(self):
        self.assertEqual(2, fewest(ASKED))
        self.assertIs(is_apart(ASKED, [LATE, NAME]), True)
        self.assertIs(is_fewest(ASKED, Shelf([("city", "born"), ("name", "city")])), True)
        self.check(ASKED, 2)

    def test_no_questions(self):
        self.assertEqual([0, [], []], [fewest(NOTHING), list(fewest_shelf(NOTHING)), apart(NOTHING)])
        self.assertEqual([True, True], [is_fewest(NOTHING, Shelf([])), is_apart(NOTHING, [])])
        self.assertIs(is_fewest(NOTHING, Shelf([("a",)])), False)
        for thing in [*odd_values(), [NEAR], ()]:
            if not isinstance(thing, Shelf):
                self.assertIs(is_fewest(NOTHING, thing), False)
            if thing != [] or isinstance(thing, Same):
                self.assertIs(is_apart(NOTHING, thing), False)

    def test_all_by_a_search_through_all_shelves(self):
        for questions in some_questions(150, 7):
            many = least_price(questions, "abc", price_of_one)
            self.assertEqual(many, most_apart(questions))
            self.check(Asked(questions), many)
        for questions in some_questions(12, 6, "abcd", seed=4):
            self.check(Asked(questions), least_price(questions, "abcd", price_of_one))

    def test_all_by_a_search_through_all_ways_to_lay_them(self):
        for questions in some_questions(60, 6, "abcd"):
            ways = [parts for parts in partitions(questions) if all(all_share(part) for part in parts)]
            self.check(Asked(questions), min(len(parts) for parts in ways))

    def test_what_one_index_serves(self):
        # One index serves several questions if and only if each two of them can share.
        for questions in some_questions(150, 4, seed=21):
            if questions:
                one = any(all(fits(index, question) for question in questions) for index in all_indexes("abc"))
                pairs = all(can_share(first, second) for first, second in combinations(questions, 2))
                self.assertIs(one, pairs)
                self.assertIs(fewest(Asked(questions)) == 1, pairs)
                if pairs:
                    widest = max(questions, key=lambda question: (len(columns_of(question)), len(question[0])))
                    self.assertEqual(columns_of(widest), tuple(sorted(index_for(questions))))
                    self.assertEqual([index_for(questions)], list(fewest_shelf(Asked(questions))))

    def test_one_question_more(self):
        for questions in some_questions(100, 7, seed=22):
            asked = Asked(questions)
            for question in all_questions("abc")[::3]:
                more = asked.with_question(question)
                self.assertIn(fewest(more) - fewest(asked), (0, 1))

    def test_a_shelf_of_the_fewest_indexes_may_have_other_columns(self):
        wide = Shelf([("city", "born", "x"), ("name", "city", "y", "z")])
        self.assertIs(is_fewest(ASKED, wide), True)
        self.assertIs(is_fewest(ASKED, Shelf([("name", "city"), ("city", "born")])), True)
        self.assertIs(is_fewest(ASKED, Shelf([("city", "born"), ("name", "city"), ("x",)])), False)
        self.assertIs(is_fewest(ASKED, Shelf([("city", "name"), ("name", "born")])), False)
        self.assertIs(is_fewest(ASKED, Shelf([("city", "born"), ("name",)])), False)
        self.assertIs(is_fewest(ASKED, Shelf([])), False)

    def test_is_fewest_by_a_search(self):
        indexes = all_indexes("ab")
        for questions in some_questions(25, 6, "ab"):
            asked = Asked(questions)
            for many in range(4):
                for row in product(indexes, repeat=many):
                    right = many == fewest(asked)
                    right = right and all(any(fits(index, one) for index in row) for one in questions)
                    self.assertIs(is_fewest(asked, Shelf(row)), right)

    def test_is_apart_by_a_search(self):
        for questions in some_questions(40, 5, seed=23):
            asked, many = Asked(questions), most_apart(questions)
            for part in subsets(questions):
                for row in permutations(part):
                    right = list(row) == sorted(row) and len(row) == many and lie_apart(row)
                    self.assertIs(is_apart(asked, list(row)), right)

    def test_any_value_may_be_no_such_shelf(self):
        right = Shelf([("city", "born"), ("name", "city")])
        for thing in [*odd_values(), right.indexes(), tuple(right), [right], (right,), {0: right}, ASKED, fewest_shelf]:
            self.assertIs(is_fewest(ASKED, thing), False)
        for thing in odd_values():
            self.assertIs(is_fewest(Asked([asking("a", "b")]), thing), False)

    def test_a_shelf_that_is_asked_about_may_be_large(self):
        letters = "abcdefghijklmnopqrstuvwxyz"
        row = [tuple([*letters[at:], *letters[:at]]) for at in range(26)]
        self.assertIs(is_fewest(Asked([asking(one) for one in letters]), Shelf(row)), True)
        self.assertIs(is_fewest(ASKED, Shelf(row)), False)
        long = Shelf([("city", "born", *[first + second for first in letters for second in letters]), ("name", "city")])
        self.assertIs(is_fewest(ASKED, long), True)

    def test_any_value_may_be_no_list_of_questions_apart(self):
        for thing in [*odd_values(), asking("born"), ASKED, Asked([LATE, NAME]), {LATE: 1, NAME: 2}, "city"]:
            self.assertIs(is_apart(ASKED, thing), False)
            for wrong in ([LATE, thing], [thing, NAME], [LATE, NAME, thing], [thing], [thing, thing]):
                self.assertIs(is_apart(ASKED, wrong), False)
        for wrong in ((LATE, NAME), [NAME, LATE], [LATE, LATE], [LATE], [NEAR, LATE], [LATE, list(NAME)], [LATE, NAME, NAME],
                      [LATE, NAME] * 10000, [[LATE, NAME]], [LATE, asking("born")], [LATE, (["name"], "")]):
            self.assertIs(is_apart(ASKED, wrong), False)
        for row in ([NEAR, NAME], [LATE, BOTH], [LATE, NAME]):
            self.assertIs(is_apart(ASKED, row), True)

    def test_forty_eight_questions_over_twelve_columns(self):
        columns = "abcdefghijkl"
        wide = [asking(*part) for part in combinations(columns, 6)][::19][:48]
        self.check(Asked(wide), 48)
        chain = [asking(*columns[:at + 1]) for at in range(12)]
        ranged = [asking(*columns[:at], last=columns[at]) for at in range(12)]
        self.check(Asked([*chain, *ranged]), 1)
        back = [asking(*columns[at:]) for at in range(12)] + [asking(*columns[at + 1:], last=columns[at])
                                                              for at in range(12)]
        self.check(Asked([*chain, *ranged, *back]), 2)
        six = [asking(*part) for many in (1, 2, 3, 4) for part in combinations("abcdef", many)][:48]
        self.check(Asked(six), 20)
        self.check(Asked(all_questions("abcd")), 12)
        self.check(Asked([asking(*columns[:at], *columns[at + 1:], last=columns[at]) for at in range(12)]
                         + [asking(*columns)]), 12)

    def test_forty_nine_questions_are_refused_ahead(self):
        questions = all_questions("abcde")[:49]
        with self.assertRaises(TooMany):
            fewest(Asked(questions))
        self.check(Asked(questions[:48]), len(apart(Asked(questions[:48]))))

    def test_asked_twice_and_in_another_order(self):
        for questions in some_questions(30, 9):
            one, other = Asked(questions), Asked([*questions[::-1], *questions])
            for _ in range(2):
                self.assertEqual(fewest_shelf(one), fewest_shelf(other))
                self.assertEqual(apart(one), apart(other))
                apart(one).append(None)
            self.assertEqual(one, Asked(questions))

    def test_other_names_give_the_same_answers(self):
        names = {"a": "c", "b": "x", "c": "a"}
        for questions in some_questions(40, 8):
            asked = Asked(questions)
            self.check(asked.renamed(names), fewest(asked))
            self.assertIs(is_fewest(asked.renamed(names), fewest_shelf(asked).renamed(names)), True)
            self.assertEqual(NOTHING, unserved(fewest_shelf(asked), asked))


if __name__ == "__main__":
    unittest.main()
