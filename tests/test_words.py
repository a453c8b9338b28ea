import unittest

from narrowkeys.shelves import Shelf
from narrowkeys.words import are_columns, is_column, is_index, is_integer, is_question, is_weight
from odd import Same, deep, no_columns, no_indexes, no_questions, odd_values


class WordsTest(unittest.TestCase):
    def tells(self, function, yes, no):
        for thing in yes:
            self.assertIs(function(thing), True, repr(thing)[:80])
        for thing in no:
            self.assertIs(function(thing), False, repr(thing)[:80])

    def test_is_integer(self):
        numbers = [0, 1, -1, 2, 48, 10 ** 30, 10 ** 39, -(10 ** 39)]
        others = [one for one in odd_values() if isinstance(one, bool) or not isinstance(one, int)]
        self.tells(is_integer, numbers, [*others, "0", "a", "", ("a",), (1,), [1]])
        self.assertIs(is_integer(True), False)
        self.assertIs(is_integer(False), False)

    def test_is_column(self):
        self.tells(is_column, ["a", "z", "az", "born", "abcdefgh", "zzzzzzzz"], no_columns())

    def test_columns_of_one_eight_and_nine_letters(self):
        self.tells(is_column, ["q", "abcdefgh"], ["", "abcdefghi", "abcdefghij"])

    def test_columns_have_nothing_but_lower_case_letters(self):
        every = [chr(code) for code in range(32, 127)] + ["\t", "\n"]
        letters = "abcdefghijklmnopqrstuvwxyz"
        self.tells(is_column, list(letters), [sign for sign in every if sign not in letters])
        for sign in every:
            for text in (sign + "a", "a" + sign, "a" + sign + "b"):
                self.assertIs(is_column(text), sign in letters, text)

    def test_letters_of_other_scripts_are_none(self):
        self.tells(is_column, [], [sign + rest for sign in "\u00e9\u00aa\u0430\uff41\u0131" for rest in ("", "a")])

    def test_are_columns(self):
        many = tuple(sorted({f"{one}{other}" for one in "abcdefgh" for other in "abcdefgh"}))
        yes = [(), ("a",), ("a", "b"), ("a", "aa", "b"), ("abcdefgh",), many, tuple("abcdefghijkl")]
        no = ["", "a", "ab", [], ["a"], ("b", "a"), ("a", "a"), ("a", "b", "b"), ("a", "c", "b"), ("",),
              ("", "a"), ("A", "a"), ("a", 1), ("a", None), (1, 2), (("a",),), ("a", ["b"]), {}, {"a": 1}, {"a"},
              None, 0, True, deep("a"), (deep("a"),), Same(), (Same(),), ("a", Same()), Shelf([("a",)]),
              ("abcdefghi",), (*many, "a"), tuple("ba"), range(0)]
        self.tells(are_columns, yes, no)

    def test_is_question(self):
        yes = [((), "a"), (("a",), ""), (("a",), "b"), (("b",), "a"), (("a", "b"), ""), (("a", "c"), "b"),
               ((), "abcdefgh"), (("abcdefgh",), ""), (tuple("abcdefghijkl"), ""), (tuple("abcdefghijk"), "l"),
               (tuple("bcdefghijkl"), "a")]
        self.tells(is_question, yes, no_questions())

    def test_a_question_has_a_column(self):
        self.tells(is_question, [((), "a"), (("a",), "")], [((), "")])

    def test_last_is_not_among_the_columns(self):
        self.tells(is_question, [(("a", "c"), "b")], [(("a", "c"), "a"), (("a", "c"), "c")])

    def test_is_index(self):
        yes = [("a",), ("a", "b"), ("b", "a"), ("c", "a", "b"), ("abcdefgh",), tuple("lkjihgfedcba")]
        no = [one for one in no_indexes() if one != ("a",)]
        self.tells(is_index, yes, [*no, (), ("a", "a"), ("a", "b", "a"), ["a"], ("a", "B")])

    def test_is_weight(self):
        yes = [1, 2, 48, 10 ** 30 - 1, 10 ** 30]
        no = [0, -1, -(10 ** 30), 10 ** 30 + 1, 10 ** 39, True, False, "1", (1,), [1], "", "a", ("a",)]
        others = [one for one in odd_values() if isinstance(one, bool) or not isinstance(one, int)]
        self.tells(is_weight, yes, [*no, *others])

    def test_nothing_is_changed(self):
        things = ["b", "a"]
        for function in (is_integer, is_column, are_columns, is_question, is_index, is_weight):
            self.assertIs(function(things), False)
            self.assertEqual(["b", "a"], things)

    def test_twenty_thousand_parts(self):
        letters = "abcdefghijklmnopqrstuvwxyz"
        names = tuple(sorted([a + b + c for a in letters for b in letters for c in letters]))
        self.assertIs(are_columns(names), True)
        self.assertIs(is_question((names, "")), True)
        self.assertIs(is_question((names, "abc")), False)
        self.assertIs(is_index(names[::-1]), True)
        self.assertIs(is_index((*names, "abc")), False)


if __name__ == "__main__":
    unittest.main()
