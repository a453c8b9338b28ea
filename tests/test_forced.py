import unittest

from narrowkeys.asked import Asked
from narrowkeys.forced import forced, forces, implied, why_implied
from narrowkeys.questions import asking
from odd import all_indexes, all_questions, fits, samples


def forced_by_search(question):
    """Two columns that question does not ask stand for all that an index may have behind."""
    others = [name for name in "abcde" if name not in (*question[0], question[1])][:2]
    names = sorted([*question[0], *([question[1]] if question[1] else []), *others])
    indexes = [index for index in all_indexes(names) if fits(index, question)]
    return [other for other in all_questions(names) if all(fits(index, other) for index in indexes)]


KEPT = {}


def forced_by_search_kept(question):
    if question not in KEPT:
        KEPT[question] = forced_by_search(question)
    return KEPT[question]


class ForcedTest(unittest.TestCase):
    def test_the_printed_list(self):
        expected = [((), "a"), (("a",), ""), (("a",), "b"), (("a", "b"), "")]
        self.assertEqual(expected, forced(asking("a", last="b")))

    def test_forced(self):
        self.assertEqual([((), "a"), (("a",), "")], forced(((), "a")))
        self.assertEqual([((), "a"), (("a",), "")], forced((("a",), "")))
        self.assertEqual([(("a", "b"), "")], forced(asking("a", "b")))
        expected = sorted([(("a", "c"), ""), (("a", "c"), "b"), (("a", "b", "c"), "")])
        self.assertEqual(expected, forced(asking("a", "c", last="b")))

    def test_forced_by_a_search(self):
        for question in all_questions("abc"):
            self.assertEqual(forced_by_search(question), forced(question), question)

    def test_forces_by_a_search(self):
        for one in all_questions("abc"):
            found = forced_by_search(one)
            for other in all_questions("abc"):
                self.assertIs(forces(one, other), other in found, (one, other))

    def test_each_forces_itself(self):
        for question in all_questions("abcd"):
            self.assertIs(forces(question, question), True)

    def test_two_can_force_each_other(self):
        one, other = (("a",), ""), ((), "a")
        self.assertIs(forces(one, other), True)
        self.assertIs(forces(other, one), True)
        asked = Asked([one, other])
        self.assertEqual([other, one], implied(asked))
        self.assertEqual([one, other], [why_implied(asked, other), why_implied(asked, one)])

    def test_one_need_not_be_forced_back(self):
        self.assertIs(forces((("a",), "b"), (("a", "b"), "")), True)
        self.assertIs(forces((("a", "b"), ""), (("a",), "b")), False)
        self.assertIs(forces((("a", "b"), ""), ((), "a")), False)

    def test_implied(self):
        asked = Asked([asking("a"), asking("a", last="b"), asking("a", "b"), asking("b"), asking(last="c")])
        self.assertEqual([(("a",), ""), (("a", "b"), "")], implied(asked))
        self.assertEqual((("a",), "b"), why_implied(asked, (("a",), "")))
        self.assertEqual((("a",), "b"), why_implied(asked, (("a", "b"), "")))
        for question in ((("a",), "b"), (("b",), ""), ((), "c")):
            self.assertIsNone(why_implied(asked, question))

    def test_no_questions_and_one(self):
        self.assertEqual([], implied(Asked([])))
        self.assertEqual([], implied(Asked([asking("a")])))
        self.assertIsNone(why_implied(Asked([asking("a")]), asking("a")))

    def test_the_least_one_is_told(self):
        asked = Asked([asking("a", last=name) for name in "zyxb"] + [asking("a"), asking(last="a")])
        self.assertEqual(((), "a"), why_implied(asked, asking("a")))
        self.assertEqual(asking("a"), why_implied(asked, asking(last="a")))
        self.assertEqual(asking("a", last="b"), why_implied(asked.without(((), "a")), asking("a")))

    def test_implied_by_a_search(self):
        for _, questions in samples(300):
            asked = Asked(questions)
            whys = {}
            for question in questions:
                found = [one for one in questions if one != question and question in forced_by_search_kept(one)]
                whys[question] = min(found, default=None)
                self.assertEqual(whys[question], why_implied(asked, question))
            self.assertEqual([question for question in questions if whys[question] is not None], implied(asked))

    def test_forty_eight_questions_with_doubles(self):
        rows = all_questions("abcde")[:48]
        asked = Asked([*rows, *rows])
        expected = [one for one in rows if any(one != other and forces(other, one) for other in rows)]
        self.assertEqual(expected, implied(asked))

    def test_twelve_columns(self):
        front = tuple("abcdefghijk")
        wide, all_of_them = (front, "l"), (tuple("abcdefghijkl"), "")
        self.assertEqual(sorted([wide, all_of_them, (front, "")]), forced(wide))
        self.assertEqual([all_of_them], forced(all_of_them))
        self.assertIs(forces(wide, all_of_them), True)
        self.assertIs(forces(all_of_them, wide), False)
        self.assertEqual(wide, why_implied(Asked([wide, all_of_them]), all_of_them))

    def test_told_lists_are_new(self):
        asked = Asked([asking("a"), asking(last="a")])
        for _ in range(2):
            told = implied(asked)
            self.assertEqual([((), "a"), (("a",), "")], told)
            told.clear()
            told = forced(asking("a", "b"))
            self.assertEqual([(("a", "b"), "")], told)
            told.clear()
        self.assertEqual(2, len(asked))

    def test_other_names_give_the_same_answers(self):
        names = dict(zip("abcd", ["d", "x", "a", "b"]))
        for _, questions in samples(60):
            asked = Asked(questions)
            self.assertEqual(Asked(implied(asked)).renamed(names), Asked(implied(asked.renamed(names))))


if __name__ == "__main__":
    unittest.main()
