"""Forty-eight questions over twelve columns, looked at in plain ways."""

import unittest
from itertools import combinations

from narrowkeys.asked import Asked
from narrowkeys.fewest import apart, fewest, fewest_shelf, is_apart, is_fewest
from narrowkeys.levels import apart_from, least_cost, levels
from narrowkeys.narrow import cost, is_narrow, is_narrow_paper, narrow_paper, narrow_shelf
from narrowkeys.shelves import Shelf
from narrowkeys.weights import Weights
from odd import fits
from plain import lie_apart, weight_of

# The columns that each question asks by equality, and behind the sign last, if there is one.
TEXT = """
> b
> z
a > z
a aa ab ask b job power quicklyx status view z
a aa ab ask b job power quicklyx status z
a aa ab ask b job power status zzzzzzzz > view
a aa ab ask b job quicklyx status z zzzzzzzz > power
a aa ab ask job power quicklyx status view z
a aa ab ask job power status view zzzzzzzz
a aa ab ask job status view > zzzzzzzz
a aa ab ask quicklyx status view z zzzzzzzz > job
a aa ab b job status view zzzzzzzz
a aa ask b job quicklyx z zzzzzzzz
a aa b power quicklyx status zzzzzzzz > job
a aa power quicklyx view
a ab ask b job power quicklyx status view zzzzzzzz > z
a ab ask job power quicklyx status view z > zzzzzzzz
a ab ask job power quicklyx status view zzzzzzzz > z
a ab b job power quicklyx status view z zzzzzzzz > ask
a ab b power quicklyx status z > ask
a ab quicklyx > view
a ask b power quicklyx
a b job status
aa ab ask b
aa ab ask b job power quicklyx status view
aa ab ask job power quicklyx status view z zzzzzzzz > b
aa ab b power quicklyx status z > job
aa ab power quicklyx status view > z
aa ask b quicklyx view > ab
aa ask job > power
aa ask status view z zzzzzzzz > a
aa job quicklyx view z zzzzzzzz
aa quicklyx > power
aa quicklyx z
ab ask b job power status z zzzzzzzz > aa
ab ask b power quicklyx status view
ab b job power view > ask
ab job > b
ab power > z
ask b power > z
ask power
ask power status view z
ask z
job power status zzzzzzzz > ask
job z > b
power
power quicklyx
status > ab
"""


def parsed(text):
    found = []
    for line in text.strip().split("\n"):
        front, _, last = line.partition(">")
        found.append((tuple(front.split()), last.strip()))
    return found


QUESTIONS = parsed(TEXT)
ASKED = Asked(QUESTIONS)
TABLE = {"a": 5, "job": 10 ** 30, "power": 3, "z": 7}


class ManyTest(unittest.TestCase):
    def check_shelf(self, shelf, many):
        self.assertIsInstance(shelf, Shelf)
        self.assertEqual(many, len(shelf))
        for question in QUESTIONS:
            self.assertTrue(any(fits(index, question) for index in shelf))

    def check_apart(self, row, many, table, level):
        self.assertEqual([many, sorted(set(row))], [len(row), row])
        self.assertTrue(all(question in QUESTIONS for question in row))
        self.assertTrue(all(weight_of(question, table) >= level for question in row))
        self.assertTrue(lie_apart(row))

    def check_levels(self, table, **told):
        """A shelf and lists of questions that are apart show of each other that neither can be better."""
        rows = levels(ASKED, **told)
        self.assertEqual(sorted({weight_of(question, table) for question in QUESTIONS}), [level for level, _ in rows])
        shelf, lists = narrow_paper(ASKED, **told)
        self.assertEqual(len(rows), len(lists))
        for (level, many), row in zip(rows, lists):
            self.check_apart(row, many, table, level)
            self.check_apart(apart_from(ASKED, level, **told), many, table, level)
        ahead = [0, *[level for level, _ in rows]]
        paid = sum((level - before) * many for (level, many), before in zip(rows, ahead))
        for found in (shelf, narrow_shelf(ASKED, **told)):
            self.check_shelf(found, 20)
            self.assertEqual([paid, paid], [sum(weight_of(index, table) for index in found), cost(found, **told)])
            self.assertIs(is_narrow(ASKED, found, **told), True)
        self.assertEqual(paid, least_cost(ASKED, **told))
        self.assertIs(is_narrow_paper(ASKED, (shelf, lists), **told), True)
        self.assertIs(is_narrow_paper(ASKED, (shelf, [*lists[:-1], []]), **told), False)

    def test_the_list(self):
        self.assertEqual([48, 12, QUESTIONS], [len(ASKED), len(ASKED.columns()), list(ASKED)])

    def test_the_fewest_indexes(self):
        self.assertEqual(20, fewest(ASKED))
        self.check_shelf(fewest_shelf(ASKED), 20)
        self.check_apart(apart(ASKED), 20, {}, 1)
        self.assertIs(is_fewest(ASKED, fewest_shelf(ASKED)), True)
        self.assertIs(is_apart(ASKED, apart(ASKED)), True)

    def test_shelves_and_lists_with_one_less(self):
        shelf, row = fewest_shelf(ASKED), apart(ASKED)
        for number in range(20):
            self.assertIs(is_fewest(ASKED, shelf.without(number)), False)
            self.assertIs(is_apart(ASKED, row[:number] + row[number + 1:]), False)
        self.assertIs(is_fewest(ASKED, shelf.with_index(("a",))), False)
        for question in QUESTIONS:
            if question not in row:
                self.assertIs(is_apart(ASKED, sorted([*row, question])), False)
                for number in range(20):
                    other = sorted([*row[:number], *row[number + 1:], question])
                    self.assertIs(is_apart(ASKED, other), lie_apart(other))

    def test_the_least_cost(self):
        self.check_levels({})
        self.check_levels({}, weights=None)
        self.check_levels(TABLE, weights=Weights(TABLE))

    def test_equal_arguments_give_equal_results(self):
        other = Asked([*QUESTIONS[::-1], *QUESTIONS])
        for _ in range(2):
            for function in (fewest_shelf, apart, levels, narrow_shelf, narrow_paper):
                self.assertEqual(function(ASKED), function(other))
            apart(ASKED).clear()
            levels(ASKED).clear()
        self.assertEqual(QUESTIONS, ASKED.questions())

    def test_lists_without_some_of_the_questions(self):
        for gone in list(combinations(range(48), 2))[::37]:
            rest = Asked([question for at, question in enumerate(QUESTIONS) if at not in gone])
            shelf, row = fewest_shelf(rest), apart(rest)
            self.assertEqual([fewest(rest)] * 2, [len(shelf), len(row)])
            self.assertTrue(lie_apart(row))
            self.assertTrue(all(any(fits(index, question) for index in shelf) for question in rest))
            self.assertIn(fewest(rest), (18, 19, 20))


if __name__ == "__main__":
    unittest.main()
