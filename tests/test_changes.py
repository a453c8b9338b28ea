import unittest
from itertools import combinations

from narrowkeys.asked import Asked
from narrowkeys.changes import added, saved
from narrowkeys.errors import NoQuestion, TooMany
from narrowkeys.fewest import fewest
from narrowkeys.levels import least_cost
from narrowkeys.questions import asking
from narrowkeys.weights import Weights
from odd import all_questions, no_questions
from plain import least_price, some_questions, some_tables, weight_of

PAIR = Asked([asking("a"), asking("b"), asking("a", "b")])
NOTHING = Asked([])
GREATEST = 10 ** 30


def numbers(questions, table):
    """The least number of indexes and the least cost by a search through all shelves over three columns."""
    return (least_price(questions, "abc", lambda index: 1),
            least_price(questions, "abc", lambda index: weight_of(index, table)))


class ChangesTest(unittest.TestCase):
    def check(self, asked, question, change, **told):
        """change is what question costs, if it is not among asked."""
        before = Asked(asked.questions())
        found = added(asked, question, **told)
        self.assertEqual([tuple, change], [type(found), found])
        found = saved(asked.with_question(question), question, **told)
        self.assertEqual([tuple, change], [type(found), found])
        self.assertEqual(before, asked)

    def test_the_printed_answers(self):
        self.assertEqual([(1, 1), (0, 0), (1, 1)],
                         [added(PAIR, asking("c")), added(PAIR, asking("a", last="b")), saved(PAIR, asking("a"))])

    def test_all_by_a_search(self):
        everything = all_questions("abc")
        for questions, table in zip(some_questions(30, 6), some_tables(31)):
            asked, weights = Asked(questions), Weights(table)
            plain, heavy = numbers(questions, {}), numbers(questions, table)
            for question in everything[::2]:
                more = sorted({*questions, question})
                some, other = numbers(more, {}), numbers(more, table)
                change = some[0] - plain[0], some[1] - plain[1]
                weighed = other[0] - heavy[0], other[1] - heavy[1]
                self.assertEqual(change, added(asked, question))
                self.assertEqual(change, added(asked, question, weights=None))
                self.assertEqual(weighed, added(asked, question, weights=weights))
                self.assertIn(change[0], (0, 1))
                self.assertTrue(0 <= change[1] <= weight_of(question, {}))
                self.assertTrue(0 <= weighed[1] <= weight_of(question, table))
                if question not in questions:
                    self.check(asked, question, change)
                    self.check(asked, question, weighed, weights=weights)

    def test_each_question_taken_out(self):
        for questions, table in zip(some_questions(30, 7, seed=33), some_tables(31)):
            asked, weights = Asked(questions), Weights(table)
            plain, heavy = numbers(questions, {}), numbers(questions, table)
            for question in questions:
                rest = [one for one in questions if one != question]
                some, other = numbers(rest, {}), numbers(rest, table)
                self.assertEqual((plain[0] - some[0], plain[1] - some[1]), saved(asked, question))
                self.assertEqual((heavy[0] - other[0], heavy[1] - other[1]), saved(asked, question, weights=weights))

    def test_no_questions(self):
        for told, paid in (({}, 2), ({"weights": None}, 2), ({"weights": Weights({"a": 7})}, 8)):
            self.check(NOTHING, asking("a", last="b"), (1, paid), **told)
            with self.assertRaises(NoQuestion):
                saved(NOTHING, asking("a"), **told)

    def test_a_question_that_is_among_them(self):
        for told in ({}, {"weights": None}, {"weights": Weights({"a": 7})}):
            for question in PAIR:
                self.assertEqual((0, 0), added(PAIR, question, **told))
        full = Asked([asking(*part) for part in combinations("abcdefghijkl", 3)][:48])
        for question in full.questions()[::7]:
            self.assertEqual((0, 0), added(full, question))
            self.assertEqual((1, 3), saved(full, question))

    def test_a_question_that_another_one_forces(self):
        asked = Asked([asking("a", last="b")])
        for question in (asking("a"), asking(last="a"), asking("a", "b")):
            self.check(asked, question, (0, 0))
            self.check(asked, question, (0, 0), weights=Weights({"a": GREATEST}))

    def test_more_cost_without_more_indexes(self):
        self.check(Asked([asking("a"), asking("b")]), asking("a", last="b"), (0, 1))
        self.check(Asked([asking("a"), asking("b")]), asking("a", last="c"), (0, 5), weights=Weights({"c": 5}))
        # The index for b alone is lengthened instead of that for a, which is heavy.
        self.check(Asked([asking("a"), asking("b")]), asking("a", "b"), (0, 1), weights=Weights({"a": 1, "b": 9}))

    def test_any_value_may_be_no_question_of_them(self):
        for asked in (PAIR, NOTHING):
            for thing in [*no_questions(), asking("z"), asking("a", last="b"), ["a"], (["a"], ""), [("a",), ""]]:
                for told in ({}, {"weights": None}, {"weights": Weights({"a": 2})}):
                    with self.assertRaises(NoQuestion) as caught:
                        saved(asked, thing, **told)
                    self.assertIs(thing, caught.exception.question)
        self.assertEqual(Asked([asking("a"), asking("b"), asking("a", "b")]), PAIR)

    def test_without_weights_each_column_weighs_one(self):
        for questions in some_questions(20, 7):
            asked = Asked(questions)
            for told in ({"weights": None}, {"weights": Weights({})}, {"weights": Weights({"a": 1})}):
                for question in all_questions("abc")[::4]:
                    self.assertEqual(added(asked, question), added(asked, question, **told))
                for question in questions:
                    self.assertEqual(saved(asked, question), saved(asked, question, **told))

    def test_two_weights_in_turn_that_are_changed(self):
        one, other = Weights({"c": 2}), Weights({"c": GREATEST})
        copy = one.copied()
        for _ in range(2):
            self.assertEqual([(1, 2), (1, GREATEST), (1, 1)],
                             [added(PAIR, asking("c"), weights=weights) for weights in (one, other, None)])
        one["c"] = 9
        other["c"] = 1
        self.assertEqual([(1, 9), (1, 1), (1, 2)],
                         [added(PAIR, asking("c"), weights=weights) for weights in (one, other, copy)])
        self.assertEqual([(1, 4), (1, 1)], [saved(PAIR, asking("a"), weights=Weights({"b": 9, "a": 4})),
                                            saved(PAIR, asking("a"), weights=Weights({"b": 9}))])
        self.assertEqual([{"c": 9}, {}, {"c": 2}], [one.table(), other.table(), copy.table()])

    def test_forty_seven_questions_and_one_more(self):
        columns = "abcdefghijkl"
        last = [asking(*columns[:at], *columns[at + 1:], last=columns[at]) for at in range(12)]
        chain = [asking(*columns[:at + 1]) for at in range(12)]
        back = [asking(*columns[at:]) for at in range(1, 12)]
        first = [asking(last=column) for column in columns]
        asked = Asked([*last, *chain, *back, *first])
        weights = Weights({column: GREATEST + 1 - at for at, column in enumerate(columns, 1)})
        self.assertEqual(47, len(asked))
        for question in (asking("c", last="a"), asking("b", "d"), asking(*"acegik", last="l")):
            more = asked.with_question(question)
            self.assertEqual(48, len(more))
            for told in ({}, {"weights": weights}):
                change = fewest(more) - fewest(asked), least_cost(more, **told) - least_cost(asked, **told)
                self.check(asked, question, change, **told)
        wide = [asking(*part) for part in combinations(columns, 6)][::19][:48]
        self.check(Asked(wide[:47]), wide[47], (1, 6))
        self.check(Asked(wide[:47]), wide[47], (1, 6 * GREATEST),
                   weights=Weights({column: GREATEST for column in columns}))
        with self.assertRaises(TooMany):
            added(Asked(wide), asking("a"))

    def test_asked_twice_and_in_another_order(self):
        for questions, table in zip(some_questions(20, 8), some_tables(21)):
            one, other = Asked(questions), Asked([*questions[::-1], *questions])
            weights, same = Weights(table), Weights({column: table[column] for column in list(table)[::-1]})
            for _ in range(2):
                for question in all_questions("abc")[::5]:
                    self.assertEqual(added(one, question, weights=weights), added(other, question, weights=same))
            self.assertEqual([Asked(questions), Weights(table)], [one, weights])

    def test_other_names_give_the_same_answers(self):
        names = {"a": "c", "b": "x", "c": "a"}
        for questions, table in zip(some_questions(20, 8), some_tables(21)):
            asked = Asked(questions)
            weights, others = Weights(table), Weights({names[column]: table[column] for column in table})
            for question in questions:
                renamed = Asked([question]).renamed(names).questions()[0]
                self.assertEqual(saved(asked, question, weights=weights),
                                 saved(asked.renamed(names), renamed, weights=others))


if __name__ == "__main__":
    unittest.main()
