import unittest
from itertools import combinations, permutations, product

from narrowkeys.asked import Asked
from narrowkeys.layers import is_layers, is_longest, layers, longest, most_served
from narrowkeys.questions import asking
from odd import Same, all_questions, odd_values
from plain import lie_apart, partitions, some_questions, subsets, under

NEAR, LATE, BOTH, NAME = asking("city"), asking("city", last="born"), asking("name", "city"), asking("name")
ASKED = Asked([LATE, NEAR, BOTH, NAME])
NOTHING = Asked([])


def is_rising(questions):
    return all(under(one, other) for one, other in zip(questions, questions[1:]))


def searched(questions):
    """The most questions of one chain, and the fewest lists of questions that are apart."""
    most = max(len(part) for part in subsets(questions) if any(is_rising(row) for row in permutations(part)))
    return most, min(len(parts) for parts in partitions(questions) if all(lie_apart(part) for part in parts))


class LayersTest(unittest.TestCase):
    def check(self, asked, many):
        self.assertEqual(many, most_served(asked))
        row, found = longest(asked), layers(asked)
        self.assertEqual([list, list, many, many], [type(row), type(found), len(row), len(found)])
        self.assertTrue(all(question in asked for question in row))
        self.assertTrue(is_rising(row))
        self.assertIs(is_longest(asked, row), True)
        self.assertEqual(asked.questions(), sorted(question for layer in found for question in layer))
        for layer in found:
            self.assertTrue(layer)
            self.assertIs(type(layer), list)
            self.assertEqual(sorted(layer), layer)
            self.assertTrue(lie_apart(layer))
        self.assertIs(is_layers(asked, found), True)
        self.assertIs(is_layers(asked, found[::-1]), True)

    def test_the_printed_numbers(self):
        self.assertEqual([2, 2], [most_served(ASKED), len(layers(ASKED))])
        self.check(ASKED, 2)

    def test_no_questions(self):
        self.assertEqual([0, [], []], [most_served(NOTHING), longest(NOTHING), layers(NOTHING)])
        self.assertEqual([True, True], [is_longest(NOTHING, []), is_layers(NOTHING, [])])
        for thing in [*odd_values(), [NEAR], [[NEAR]], [[]], ()]:
            if thing != [] or isinstance(thing, Same):
                self.assertIs(is_longest(NOTHING, thing), False)
                self.assertIs(is_layers(NOTHING, thing), False)

    def test_one_question(self):
        for question in (NEAR, LATE, asking(last="a"), asking(*"abcdefghijkl"), asking(*"abcdefghijk", last="l")):
            asked = Asked([question])
            self.check(asked, 1)
            self.assertEqual([[question], [[question]]], [longest(asked), layers(asked)])

    def test_all_by_a_search(self):
        for questions in some_questions(150, 6):
            most, fewest = searched(questions)
            self.assertEqual(most, fewest)
            self.check(Asked(questions), most)

    def test_a_range_is_below_the_equality_of_its_columns(self):
        row = [asking(last="a"), asking("a"), asking("a", last="b"), asking("a", "b"), asking("a", "b", last="c")]
        for some in permutations(row):
            self.assertEqual(row, longest(Asked(some)))
            self.assertEqual([[question] for question in row], layers(Asked(some)))

    def test_forty_eight_questions_over_twelve_columns(self):
        columns = "lkjihgfedcba"
        row = [question for at in range(12) for question in (asking(*columns[:at], last=columns[at]),
                                                              asking(*columns[:at + 1]))]
        turned = columns[1:] + columns[:1]
        other = [question for at in range(12) for question in (asking(*turned[:at], last=turned[at]),
                                                                asking(*turned[:at + 1]))]
        asked = Asked([*row, *other])
        self.assertEqual(47, len(asked))
        self.check(asked, 24)
        self.assertEqual(row, longest(Asked(row)))
        wide = [asking(*part) for part in combinations("abcdefghijkl", 6)][::20][:46]
        self.check(Asked([*wide, asking(*columns), asking("a")]), 3)
        self.check(Asked(wide), 1)
        self.check(Asked(all_questions("abcd")), 8)

    def test_is_longest_by_a_search(self):
        for questions in [ASKED.questions(), *some_questions(12, 5, seed=9)]:
            asked = Asked(questions)
            most = most_served(asked)
            for part in subsets(questions):
                for row in permutations(part):
                    self.assertIs(is_longest(asked, list(row)), len(row) == most and is_rising(row))

    def test_is_layers_by_a_search(self):
        for questions in [ASKED.questions(), *some_questions(20, 4, seed=10)]:
            asked, most = Asked(questions), most_served(Asked(questions))
            for parts in partitions(questions):
                for lists in product(*[list(permutations(part)) for part in parts]):
                    right = all(list(one) == sorted(one) and lie_apart(one) for one in lists) and len(lists) == most
                    for row in permutations(lists):
                        self.assertIs(is_layers(asked, [list(one) for one in row]), right)

    def test_any_value_may_be_no_longest_list(self):
        self.assertIs(is_longest(ASKED, [NEAR, LATE]), True)
        self.assertIs(is_longest(ASKED, [NAME, BOTH]), True)
        for thing in [*odd_values(), asking("born"), asking("city", last="name"), ASKED, layers]:
            self.assertIs(is_longest(ASKED, thing), False)
            for wrong in ([NEAR, thing], [thing, LATE], [thing], [NEAR, LATE, thing], [thing, thing]):
                self.assertIs(is_longest(ASKED, wrong), False)
        for wrong in ((NEAR, LATE), [LATE, NEAR], [NEAR, NEAR], [NEAR, list(LATE)], [NEAR], [NEAR] * 10000, [[NEAR, LATE]],
                      {NEAR: 1, LATE: 2}, [NEAR, LATE, BOTH], [NAME, LATE], NEAR, LATE, Asked([NEAR, LATE])):
            self.assertIs(is_longest(ASKED, wrong), False)

    def test_any_value_may_be_no_layers(self):
        right = [[NEAR, NAME], [LATE, BOTH]]
        self.assertIs(is_layers(ASKED, right), True)
        for thing in [*odd_values(), ASKED, asking("born")]:
            self.assertIs(is_layers(ASKED, thing), False)
            for wrong in ([right[0], thing], [thing, right[1]], [*right, thing], [right[0], [LATE, thing]],
                          [[thing, NAME], right[1]], [[NEAR, NAME, thing], right[1]], [thing, thing]):
                self.assertIs(is_layers(ASKED, wrong), False)
        for wrong in (tuple(right), [tuple(right[0]), right[1]], [[NAME, NEAR], right[1]], [right[0], right[0]],
                      [right[0], [LATE, LATE, BOTH]], [right[0], [BOTH]], [*right, []], [[NEAR, LATE], [NAME, BOTH]],
                      [NEAR, LATE, BOTH, NAME], [[NEAR], [NAME], [LATE, BOTH]], [[NEAR, LATE, NAME, BOTH]], right[0],
                      [right[0], right[1] * 5000], [right[0], [LATE, list(BOTH)]], right * 5000):
            self.assertIs(is_layers(ASKED, wrong), False)

    def test_asked_twice_and_told_lists_are_new(self):
        rows = [ASKED.questions(), ASKED.questions()[::-1], [*ASKED, *ASKED]]
        for row in rows * 2:
            asked = Asked(row)
            self.assertEqual(longest(ASKED), longest(asked))
            self.assertEqual(layers(ASKED), layers(asked))
            longest(ASKED).clear()
            found = layers(ASKED)
            found[0].clear()
            found.append(None)
        self.assertIs(is_longest(ASKED, longest(ASKED)), True)
        self.assertIs(is_layers(ASKED, layers(ASKED)), True)
        self.assertEqual(Asked([LATE, NEAR, BOTH, NAME]), ASKED)

    def test_other_names_give_the_same_answers(self):
        names = {"a": "c", "b": "x", "c": "a"}
        for questions in some_questions(40, 8):
            asked = Asked(questions)
            self.check(asked.renamed(names), most_served(asked))


if __name__ == "__main__":
    unittest.main()
