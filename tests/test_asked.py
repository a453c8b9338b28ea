import itertools
import unittest

from narrowkeys.asked import Asked
from narrowkeys.errors import NoQuestion, TooMany, Wrong
from narrowkeys.questions import asking
from narrowkeys.shelves import Shelf
from odd import Same, all_questions, deep, no_columns, no_questions, odd_values

NEAR, LATE, BOTH, NAME = asking("city"), asking("city", last="born"), asking("name", "city"), asking("name")
ROWS = [NEAR, LATE, BOTH, NAME]
MANY = all_questions("abcde")[:49]


class AskedTest(unittest.TestCase):
    def setUp(self):
        self.asked = Asked([LATE, NEAR, BOTH, NAME])

    def raises(self, error, call, *arguments):
        with self.assertRaises(error) as caught:
            call(*arguments)
        return caught.exception

    def test_the_printed_list(self):
        self.assertEqual(4, len(self.asked))
        self.assertEqual(ROWS, list(self.asked))
        self.assertEqual(ROWS, self.asked.questions())
        self.assertEqual(["born", "city", "name"], self.asked.columns())

    def test_no_question(self):
        for empty in (Asked([]), Asked(())):
            self.assertEqual([0, [], [], []], [len(empty), list(empty), empty.questions(), empty.columns()])
            self.assertIs(NEAR in empty, False)
            self.assertIs(empty == Asked([]), True)
            self.assertIs(empty.within(empty), True)
            self.assertEqual(empty, empty.renamed({}))
            self.assertEqual([empty] * 3, [empty | empty, empty & empty, empty - empty])
            self.assertEqual(NEAR, self.raises(NoQuestion, empty.without, NEAR).question)

    def test_each_once_and_ascending(self):
        for row in itertools.permutations([LATE, NEAR, BOTH, NAME]):
            self.assertEqual(ROWS, list(Asked(row)))
            self.assertEqual(ROWS, Asked([*row, *row[:2]]).questions())
            self.assertEqual(4, len(Asked([*row, *row])))

    def test_columns_count_the_last_ones(self):
        self.assertEqual(["a", "b", "c"], Asked([asking("c", last="a"), asking(last="b")]).columns())
        self.assertEqual(["a"], Asked([asking("a"), asking(last="a")]).columns())

    def test_wrong_lists(self):
        for thing in odd_values():
            if not isinstance(thing, (list, tuple)) or list(thing) not in ([], [(("a",), "")]):
                self.assertEqual(0, self.raises(Wrong, Asked, thing).place)
        for thing in (NEAR, BOTH, {NEAR: 1}, {NEAR}, iter(ROWS), self.asked, Shelf([("a",)]), "a", ("a",), [("a",)]):
            self.assertEqual(0, self.raises(Wrong, Asked, thing).place)

    def test_wrong_questions_inside(self):
        for thing in no_questions():
            self.assertEqual(0, self.raises(Wrong, Asked, [thing]).place)
            self.assertEqual(0, self.raises(Wrong, Asked, (NEAR, thing)).place)
            self.assertEqual(0, self.raises(Wrong, Asked, [NEAR, thing, LATE]).place)

    def test_wrong_columns_inside(self):
        for thing in no_columns():
            self.assertEqual(0, self.raises(Wrong, Asked, [((thing,), "z")]).place)
            self.assertEqual(0, self.raises(Wrong, Asked, [NEAR, (("a", thing), "z")]).place)
            if thing != "" or isinstance(thing, Same):
                self.assertEqual(0, self.raises(Wrong, Asked, [NEAR, (("a",), thing)]).place)

    def test_wrong_comes_before_too_many(self):
        self.assertEqual(0, self.raises(Wrong, Asked, [*MANY, None]).place)
        self.assertEqual(0, self.raises(Wrong, Asked, [*MANY, (("b", "a"), "")]).place)
        self.assertEqual(0, self.raises(Wrong, Asked, [deep(NEAR, 36), *MANY]).place)

    def test_forty_eight_and_forty_nine(self):
        self.assertEqual(MANY[:48], list(Asked(MANY[:48])))
        self.assertEqual(MANY[:48], list(Asked([*MANY[:48], *MANY[:48]])))
        self.assertEqual(1, len(Asked([NEAR] * 4000)))
        self.assertEqual(48, self.raises(TooMany, Asked, MANY).limit)
        self.assertEqual(48, self.raises(TooMany, Asked, (*MANY, *MANY)).limit)

    def test_lists_are_copied(self):
        rows = [NEAR, LATE]
        asked = Asked(rows)
        rows.append(BOTH)
        rows[0] = NAME
        self.assertEqual([NEAR, LATE], list(asked))
        for told in (asked.questions(), asked.columns()):
            told.append(BOTH)
            told[0] = NAME
        self.assertEqual([NEAR, LATE], asked.questions())
        self.assertEqual(["born", "city"], asked.columns())
        self.assertEqual(Asked([NEAR, LATE]), asked)
        self.assertIsNot(asked.questions(), asked.questions())
        rows = [LATE, NEAR]
        Asked(rows)
        self.assertEqual([LATE, NEAR], rows)

    def test_in(self):
        for question in ROWS:
            self.assertIs(question in self.asked, True)
        for question in ((("born",), ""), ((), "city"), (("city",), "name")):
            self.assertIs(question in self.asked, False)
        for thing in [*no_questions(), self.asked, list(NEAR), ROWS, "city", ("city",)]:
            self.assertIs(thing in self.asked, False)

    def test_equal(self):
        self.assertIs(self.asked == Asked(ROWS[::-1]), True)
        self.assertIs(self.asked != Asked(ROWS[::-1]), False)
        self.assertIs(self.asked == Asked(ROWS[1:]), False)
        self.assertIs(self.asked != Asked(ROWS[1:]), True)
        for thing in [*odd_values(), ROWS, tuple(ROWS), Shelf([]), "", "a"]:
            if not isinstance(thing, Same):
                self.assertIs(self.asked == thing, False)
                self.assertIs(thing == self.asked, False)
                self.assertIs(self.asked != thing, True)
        self.assertIs(self.asked == Same(), False)
        self.assertIs(Asked([]) == [], False)
        self.assertIs(Asked([]) == Shelf([]), False)

    def test_signs(self):
        one, other = Asked([NEAR, LATE, NAME]), Asked([BOTH, NAME])
        self.assertEqual(ROWS, list(one | other))
        self.assertEqual(ROWS, list(other | one))
        self.assertEqual([NAME], list(one & other))
        self.assertEqual([NAME], list(other & one))
        self.assertEqual([NEAR, LATE], list(one - other))
        self.assertEqual([BOTH], list(other - one))
        self.assertEqual([[NEAR, LATE, NAME], [BOTH, NAME]], [list(one), list(other)])

    def test_signs_by_a_search(self):
        rows = [set(row) for many in range(4) for row in itertools.combinations(ROWS, many)]
        for one, other in itertools.product(rows, repeat=2):
            first, second = Asked(list(one)), Asked(list(other))
            self.assertEqual(sorted(one | other), list(first | second))
            self.assertEqual(sorted(one & other), list(first & second))
            self.assertEqual(sorted(one - other), list(first - second))
            self.assertIs(first.within(second), one <= other)
            self.assertIs(first == second, one == other)

    def test_both_have_forty_eight_or_forty_nine(self):
        one, other = Asked(MANY[:30]), Asked(MANY[10:48])
        self.assertEqual(MANY[:48], list(one | other))
        self.assertEqual(MANY[:48], list((one | other) | (one | other)))
        self.assertEqual(48, self.raises(TooMany, lambda: one | Asked(MANY[10:])).limit)
        self.assertEqual([30, 38], [len(one), len(other)])

    def test_with_question(self):
        self.assertEqual(sorted([*ROWS, asking("a")]), list(self.asked.with_question(asking("a"))))
        self.assertEqual(ROWS, list(self.asked.with_question(LATE)))
        self.assertEqual(ROWS, list(self.asked))
        full = Asked(MANY[:47]).with_question(MANY[47])
        self.assertEqual(MANY[:48], list(full))
        self.assertEqual(MANY[:48], list(full.with_question(MANY[20])))
        self.assertEqual(48, self.raises(TooMany, full.with_question, MANY[48]).limit)
        self.assertEqual(MANY[:48], list(full))

    def test_without(self):
        self.assertEqual([NEAR, BOTH, NAME], list(self.asked.without(LATE)))
        self.assertEqual(ROWS, list(self.asked))
        missing = (("born",), "")
        self.assertIs(missing, self.raises(NoQuestion, self.asked.without, missing).question)
        for thing in no_questions():
            self.assertIs(thing, self.raises(NoQuestion, self.asked.without, thing).question)
        self.assertEqual(ROWS, list(self.asked))

    def test_renamed(self):
        asked = Asked([asking("a", "b"), asking("b", last="a"), asking(last="c")])
        names = {"a": "z", "b": "y", "c": "x", "other": "w"}
        self.assertEqual([((), "x"), (("y",), "z"), (("y", "z"), "")], list(asked.renamed(names)))
        self.assertEqual({"a": "z", "b": "y", "c": "x", "other": "w"}, names)
        self.assertEqual([((), "c"), (("a", "b"), ""), (("b",), "a")], list(asked))

    def test_names_are_exchanged_all_at_once(self):
        asked = Asked([asking("a", "b"), asking("b", last="a"), asking("c")])
        names = {"c": "a", "a": "b", "b": "c"}
        self.assertEqual([(("a",), ""), (("b", "c"), ""), (("c",), "b")], list(asked.renamed(names)))
        self.assertEqual(asked, asked.renamed(names).renamed(names).renamed(names))
        everything = Asked(MANY[:48])
        self.assertEqual(48, len(everything.renamed(dict(zip("abcde", "bcdea")))))

    def test_asking_twice_tells_the_same(self):
        for _ in range(2):
            self.assertEqual([ROWS, ROWS], [list(self.asked), self.asked.questions()])
            self.assertEqual(4, len([question for question in self.asked]))
            self.assertEqual(Asked([NEAR]), self.asked & Asked([NEAR]))


if __name__ == "__main__":
    unittest.main()
