import unittest
from itertools import combinations

from narrowkeys.asked import Asked
from narrowkeys.levels import apart_from, least_cost, levels
from narrowkeys.questions import asking
from narrowkeys.weights import Weights
from odd import all_questions
from plain import least_price, lie_apart, most_apart, some_questions, some_tables, weight_of

NEAR, LATE, BOTH, NAME = asking("city"), asking("city", last="born"), asking("name", "city"), asking("name")
ASKED = Asked([LATE, NEAR, BOTH, NAME])
NOTHING = Asked([])
GREATEST = 10 ** 30


class LevelsTest(unittest.TestCase):
    def check(self, asked, table, **told):
        """Compares all answers with a search; told holds the weights, or nothing."""
        questions = asked.questions()
        heavy = [weight_of(question, table) for question in questions]
        found = levels(asked, **told)
        self.assertEqual(sorted(set(heavy)), [level for level, _ in found])
        for level, many in found:
            some = [question for question, weight in zip(questions, heavy) if weight >= level]
            self.assertEqual(many, most_apart(some))
        known = dict(found)
        for level in sorted({level + more for level in [0, *known] for more in (-1, 0, 1)} | {-(10 ** 40), 10 ** 40}):
            row = apart_from(asked, level, **told)
            self.assertIs(type(row), list)
            self.assertEqual(sorted(set(row)), row)
            self.assertEqual(next((known[one] for one in sorted(known) if one >= level), 0), len(row))
            self.assertTrue(lie_apart(row))
            for question in row:
                self.assertIn(question, questions)
                self.assertGreaterEqual(weight_of(question, table), level)

    def test_the_printed_answers(self):
        weights = Weights({"city": 5})
        self.assertEqual([[(1, 2), (2, 2)], [(1, 2), (5, 2), (6, 2)], 4, 12],
                         [levels(ASKED), levels(ASKED, weights=weights), least_cost(ASKED),
                          least_cost(ASKED, weights=weights)])
        self.check(ASKED, {})
        self.check(ASKED, {"city": 5}, weights=weights)

    def test_no_questions(self):
        for told in ({}, {"weights": None}, {"weights": Weights({"a": 7})}):
            self.assertEqual([[], 0], [levels(NOTHING, **told), least_cost(NOTHING, **told)])
            for level in (-1, 0, 1, 7, 10 ** 40):
                self.assertEqual([], apart_from(NOTHING, level, **told))

    def test_one_question(self):
        wide, weights = "abcdefghijkl", Weights({column: GREATEST for column in "abcdefghijkl"})
        for question, many in ((asking("a"), 1), (asking(last="a"), 1), (asking("a", last="b"), 2),
                               (asking(*wide), 12), (asking(*wide[1:], last="a"), 12)):
            asked = Asked([question])
            self.assertEqual([[(many, 1)], many], [levels(asked), least_cost(asked)])
            self.assertEqual([[question], [question], []], [apart_from(asked, level) for level in (-5, many, many + 1)])
            heavy = many * GREATEST
            self.assertEqual([[(heavy, 1)], heavy],
                             [levels(asked, weights=weights), least_cost(asked, weights=weights)])
            self.assertEqual([[question], []], [apart_from(asked, heavy, weights=weights),
                                                apart_from(asked, heavy + 1, weights=weights)])

    def test_levels_by_a_search(self):
        for questions, table in zip(some_questions(80, 7, "abcd"), some_tables(81, "abcd")):
            asked = Asked(questions)
            self.check(asked, {})
            self.check(asked, {}, weights=None)
            self.check(asked, table, weights=Weights(table))

    def test_least_cost_by_a_search_through_all_shelves(self):
        for questions, table in zip(some_questions(120, 7), some_tables(121)):
            asked, weights = Asked(questions), Weights(table)
            self.assertEqual(least_price(questions, "abc", len), least_cost(asked))
            paid = least_price(questions, "abc", lambda index: weight_of(index, table))
            self.assertEqual(paid, least_cost(asked, weights=weights))

    def test_least_cost_is_the_sum_of_the_steps(self):
        for questions, table in zip(some_questions(60, 20, "abcd"), some_tables(61, "abcd")):
            asked, weights = Asked(questions), Weights(table)
            rows = levels(asked, weights=weights)
            ahead = [0, *[level for level, _ in rows]]
            paid = sum((level - before) * many for (level, many), before in zip(rows, ahead))
            self.assertEqual(paid, least_cost(asked, weights=weights))

    def test_without_weights_each_column_weighs_one(self):
        for questions in some_questions(30, 9):
            asked = Asked(questions)
            for told in ({"weights": None}, {"weights": Weights({})}, {"weights": Weights({"a": 1})}):
                self.assertEqual(levels(asked), levels(asked, **told))
                self.assertEqual(least_cost(asked), least_cost(asked, **told))
                self.assertEqual(apart_from(asked, 2), apart_from(asked, 2, **told))

    def test_two_weights_in_turn(self):
        one, other = Weights({"city": 5}), Weights({"name": 3, "born": 9})
        for _ in range(3):
            self.assertEqual([12, 14, 4], [least_cost(ASKED, weights=one), least_cost(ASKED, weights=other),
                                           least_cost(ASKED)])
            self.assertEqual([(1, 2), (5, 2), (6, 2)], levels(ASKED, weights=one))
            self.assertEqual([(1, 2), (3, 2), (4, 2), (10, 1)], levels(ASKED, weights=other))
            self.assertEqual([LATE], apart_from(ASKED, 10, weights=other))
        self.assertEqual([{"city": 5}, {"born": 9, "name": 3}], [one.table(), other.table()])

    def test_weights_that_are_changed_between_two_calls(self):
        weights = Weights({"city": 4})
        copy = weights.copied()
        self.assertEqual([10, 10], [least_cost(ASKED, weights=weights), least_cost(ASKED, weights=copy)])
        weights["city"] = 5
        self.assertEqual([12, 10], [least_cost(ASKED, weights=weights), least_cost(ASKED, weights=copy)])
        weights["city"] = 1
        self.assertEqual([4, 10], [least_cost(ASKED, weights=weights), least_cost(ASKED, weights=copy)])
        self.assertEqual([levels(ASKED), [(1, 2), (4, 2), (5, 2)]],
                         [levels(ASKED, weights=weights), levels(ASKED, weights=copy)])

    def test_one_question_more(self):
        for questions, table in zip(some_questions(60, 6, seed=41), some_tables(61)):
            asked, weights = Asked(questions), Weights(table)
            for question in all_questions("abc")[::3]:
                more = least_cost(asked.with_question(question), weights=weights) - least_cost(asked, weights=weights)
                self.assertTrue(0 <= more <= weights(question))

    def test_forty_eight_questions_over_twelve_columns(self):
        columns = "abcdefghijkl"
        wide = [asking(*part) for part in combinations(columns, 6)][::19][:48]
        self.assertEqual([[(6, 48)], 288], [levels(Asked(wide)), least_cost(Asked(wide))])
        chain = [asking(*columns[:at + 1]) for at in range(12)]
        ranged = [asking(*columns[:at], last=columns[at]) for at in range(12)]
        back = [asking(*columns[at:]) for at in range(12)]
        asked = Asked([*chain, *ranged, *back])
        self.assertEqual([*[(level, 2) for level in range(1, 12)], (12, 1)], levels(asked))
        self.assertEqual(23, least_cost(asked))
        weights = Weights({column: GREATEST for column in columns})
        self.assertEqual([*[(level * GREATEST, 2) for level in range(1, 12)], (12 * GREATEST, 1)],
                         levels(asked, weights=weights))
        self.assertEqual(23 * GREATEST, least_cost(asked, weights=weights))
        self.assertEqual(2, len(apart_from(asked, 11 * GREATEST, weights=weights)))

    def test_asked_twice_and_in_another_order(self):
        for questions, table in zip(some_questions(30, 9), some_tables(31)):
            one, other = Asked(questions), Asked([*questions[::-1], *questions])
            weights, same = Weights(table), Weights({column: table[column] for column in list(table)[::-1]})
            for _ in range(2):
                self.assertEqual(levels(one, weights=weights), levels(other, weights=same))
                self.assertEqual(apart_from(one, 3, weights=weights), apart_from(other, 3, weights=same))
                apart_from(one, 3, weights=weights).append(None)
                levels(one, weights=weights).append(None)
            self.assertEqual(one, Asked(questions))
            self.assertEqual(Weights(table), weights)

    def test_other_names_give_the_same_answers(self):
        names = {"a": "c", "b": "x", "c": "a"}
        for questions, table in zip(some_questions(40, 8), some_tables(41)):
            asked = Asked(questions)
            weights, others = Weights(table), Weights({names[column]: table[column] for column in table})
            renamed = asked.renamed(names)
            self.assertEqual(levels(asked, weights=weights), levels(renamed, weights=others))
            self.assertEqual(least_cost(asked, weights=weights), least_cost(renamed, weights=others))


if __name__ == "__main__":
    unittest.main()
