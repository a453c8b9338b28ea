import unittest
from math import comb

from narrowkeys.asked import Asked
from narrowkeys.everything import all_questions, fewest_for, levels_for, width_for
from narrowkeys.fewest import fewest
from narrowkeys.levels import least_cost, levels
from narrowkeys.questions import asking
from odd import all_questions as searched


def plain_ones(columns):
    return [question for question in searched(columns) if question[1] == ""]


def numbers(many, **told):
    return fewest_for(many, **told), width_for(many, **told), levels_for(many, **told)


class EverythingTest(unittest.TestCase):
    def test_the_printed_answers(self):
        self.assertEqual([6, 15, [(1, 6), (2, 6), (3, 3)], 7],
                         [fewest_for(3), width_for(3), levels_for(3), width_for(3, plain=True)])

    def test_all_questions(self):
        for columns in ((), ("a",), ("a", "b"), ("b", "x"), ("a", "b", "c"), ("ask", "b", "city", "z")):
            for told in ({}, {"plain": False}):
                found = all_questions(columns, **told)
                self.assertIsInstance(found, Asked)
                self.assertEqual(searched(columns), found.questions())
            self.assertEqual(plain_ones(columns), all_questions(columns, plain=True).questions())
        self.assertEqual([0, 2, 7, 19, 47], [len(all_questions(tuple("abcd"[:many]))) for many in range(5)])

    def test_plain_questions_over_five_columns(self):
        found = all_questions(tuple("abcde"), plain=True)
        self.assertEqual(plain_ones("abcde"), found.questions())
        self.assertEqual(31, len(found))

    def test_some_questions_by_hand(self):
        self.assertEqual([((), "a"), ((), "b"), (("a",), ""), (("a",), "b"), (("a", "b"), ""), (("b",), ""), (("b",), "a")],
                         list(all_questions(("a", "b"))))
        self.assertEqual([asking("a"), asking("a", "b"), asking("b")], list(all_questions(("a", "b"), plain=True)))

    def test_the_formulas_agree_with_the_list_of_all_questions(self):
        for many in range(6):
            for plain in (False, True):
                if many < 5 or plain:
                    asked = all_questions(tuple("abcde"[:many]), plain=plain)
                    self.assertEqual((fewest(asked), least_cost(asked), levels(asked)), numbers(many, plain=plain))

    def test_no_columns_and_one(self):
        for told in ({}, {"plain": False}, {"plain": True}):
            self.assertEqual((0, 0, []), numbers(0, **told))
            self.assertEqual((1, 1, [(1, 1)]), numbers(1, **told))
        self.assertEqual([Asked([])] * 2, [all_questions(()), all_questions((), plain=True)])

    def test_all_numbers_of_columns_by_the_words_of_the_formula(self):
        for many in range(61):
            ranged = [comb(many, k) * (many - k) for k in range(many)]
            rows = [(t, max(ranged[k] for k in range(many) if k + 1 >= t)) for t in range(1, many + 1)]
            paid = sum(number for _, number in rows)
            self.assertEqual((max(ranged, default=0), paid, rows), numbers(many))
            plain = [comb(many, k) for k in range(many + 1)]
            rows = [(t, max(plain[t:])) for t in range(1, many + 1)]
            self.assertEqual((max(plain[1:], default=0), sum(number for _, number in rows), rows),
                             numbers(many, plain=True))

    def test_sixty_columns(self):
        self.assertEqual(comb(60, 30), fewest_for(60, plain=True))
        self.assertEqual([60 * comb(59, 29), 60 * comb(59, 30)], [fewest_for(60), fewest_for(60)])
        rows = levels_for(60)
        self.assertEqual([60, (1, 60 * comb(59, 29)), (60, 60)], [len(rows), rows[0], rows[-1]])
        self.assertEqual((60, 1), levels_for(60, plain=True)[-1])
        self.assertEqual((59, 60 * 59), rows[-2])

    def test_told_values_are_new(self):
        for told in ({}, {"plain": True}):
            rows = levels_for(4, **told)
            rows.append(None)
            rows[0] = None
            self.assertEqual(4, len(levels_for(4, **told)))
            self.assertEqual(tuple, type(levels_for(4, **told)[0]))
            self.assertIsNot(levels_for(4, **told), levels_for(4, **told))
        all_questions(("a",)).questions().clear()
        self.assertEqual(2, len(all_questions(("a",))))

    def test_other_names_give_the_same_answers(self):
        names = {"a": "z", "b": "a", "c": "job"}
        for plain in (False, True):
            asked = all_questions(("a", "b", "c"), plain=plain)
            self.assertEqual(all_questions(("a", "job", "z"), plain=plain), asked.renamed(names))


if __name__ == "__main__":
    unittest.main()
