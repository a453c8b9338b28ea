import itertools
import unittest

from narrowkeys.errors import Wrong
from narrowkeys.questions import asking, can_share, columns_of, is_below, is_plain, split_pair, width
from narrowkeys.shelves import Shelf
from odd import Same, all_indexes, all_questions, deep, fits, no_columns

NEAR, LATE, BOTH = (("city",), ""), (("city",), "born"), (("city", "name"), "")


class AskingTest(unittest.TestCase):
    def wrong(self, place, *columns, **more):
        with self.assertRaises(Wrong) as caught:
            asking(*columns, **more)
        self.assertEqual(place, caught.exception.place)

    def test_the_printed_questions(self):
        self.assertEqual(NEAR, asking("city"))
        self.assertEqual(LATE, asking("city", last="born"))
        self.assertEqual(BOTH, asking("name", "city"))

    def test_the_order_of_the_columns_is_of_no_account(self):
        for row in itertools.permutations(["a", "b", "c", "dd"]):
            self.assertEqual((("a", "b", "c", "dd"), ""), asking(*row))
            self.assertEqual((("a", "b", "c", "dd"), "aa"), asking(*row, last="aa"))

    def test_only_a_last_column(self):
        self.assertEqual(((), "day"), asking(last="day"))

    def test_last_may_be_left_out_or_empty(self):
        self.assertEqual((("a",), ""), asking("a", last=""))

    def test_a_question_of_twelve_columns(self):
        self.assertEqual((tuple("abcdefghijk"), "l"), asking(*"kjihgfedcba", last="l"))

    def test_no_column_at_all(self):
        self.wrong(0)
        self.wrong(0, last="")

    def test_the_same_column_twice(self):
        self.wrong(0, "a", "a")
        self.wrong(0, "a", "b", "a", last="c")

    def test_columns_of_any_kind(self):
        for thing in [*no_columns(), ""]:
            self.wrong(0, thing)
            self.wrong(0, "a", thing)
            self.wrong(0, thing, "a", last="b")

    def test_last_of_any_kind(self):
        for thing in no_columns():
            if thing != "" or isinstance(thing, Same):
                self.wrong(1, last=thing)
                self.wrong(1, "a", last=thing)

    def test_last_among_the_columns(self):
        self.wrong(1, "a", last="a")
        self.wrong(1, "a", "b", last="b")

    def test_the_columns_are_wrong_first(self):
        for thing in (None, 5, "A", deep("a"), Shelf([]), "b"):
            self.wrong(0, "b", "b", last=thing)
            self.wrong(0, None, last=thing)

    def test_a_list_that_is_passed_stays(self):
        names = ["b", "a"]
        self.wrong(0, names)
        self.assertEqual((("a", "b"), ""), asking(*names))
        self.assertEqual(["b", "a"], names)

    def test_twenty_thousand_columns(self):
        letters = "abcdefghijklmnopqrstuvwxyz"
        names = [a + b + c for a in letters for b in letters for c in letters]
        self.assertEqual((tuple(names), ""), asking(*names[::-1]))
        self.wrong(0, *names, "abc")
        self.wrong(1, *names, last="abc")


class QuestionsTest(unittest.TestCase):
    def test_columns_of(self):
        self.assertEqual(("a",), columns_of(((), "a")))
        self.assertEqual(("a", "b"), columns_of((("a", "b"), "")))
        self.assertEqual(("a", "b", "c"), columns_of((("a", "c"), "b")))
        self.assertEqual(("a", "b", "c"), columns_of((("b", "c"), "a")))
        self.assertEqual(("a", "b", "c"), columns_of((("a", "b"), "c")))
        self.assertEqual(("born", "city"), columns_of(LATE))

    def test_width(self):
        self.assertEqual([1, 2, 2], [width(NEAR), width(LATE), width(BOTH)])
        self.assertEqual(1, width(((), "a")))
        self.assertEqual(12, width((tuple("abcdefghijk"), "l")))
        self.assertEqual(12, width((tuple("abcdefghijkl"), "")))

    def test_is_plain(self):
        self.assertEqual([True, False, True], [is_plain(NEAR), is_plain(LATE), is_plain(BOTH)])
        self.assertIs(is_plain(((), "a")), False)

    def test_is_below_by_its_words(self):
        for one, other in itertools.product(all_questions("abc"), repeat=2):
            among = [column in other[0] for column in (*one[0], *([one[1]] if one[1] else []))]
            self.assertIs(is_below(one, other), one != other and all(among), (one, other))

    def test_is_below(self):
        self.assertIs(is_below(NEAR, LATE), True)
        self.assertIs(is_below(LATE, NEAR), False)
        self.assertIs(is_below(NEAR, NEAR), False)
        self.assertIs(is_below(LATE, LATE), False)
        self.assertIs(is_below(((), "a"), (("a",), "")), True)
        self.assertIs(is_below((("a",), ""), ((), "a")), False)
        self.assertIs(is_below(LATE, BOTH), False)
        self.assertIs(is_below(LATE, (("born", "city"), "")), True)
        self.assertIs(is_below(LATE, (("city", "x"), "born")), False)

    def test_can_share(self):
        self.assertIs(can_share(NEAR, LATE), True)
        self.assertIs(can_share(LATE, NEAR), True)
        self.assertIs(can_share(LATE, LATE), True)
        self.assertIs(can_share(LATE, BOTH), False)
        self.assertIs(can_share((("a",), "b"), (("b",), "a")), False)

    def test_two_can_share_if_one_index_serves_both(self):
        indexes = all_indexes("abc")
        for one, other in itertools.product(all_questions("abc"), repeat=2):
            found = any(fits(index, one) and fits(index, other) for index in indexes)
            self.assertIs(can_share(one, other), found, (one, other))

    def test_the_printed_split_pair(self):
        self.assertEqual((LATE, BOTH), split_pair([BOTH, LATE, NEAR]))

    def test_split_pair_of_none_one_and_doubles(self):
        for questions in ([], (), [NEAR], (LATE,), [LATE, LATE], [NEAR, LATE, NEAR], (LATE, NEAR)):
            self.assertIsNone(split_pair(questions))

    def test_split_pair_is_the_least(self):
        everything = all_questions("abc")
        for row in itertools.product(everything[::2], everything[1::2], everything[::3]):
            pairs = [(one, other) for one in row for other in row if one < other and not can_share(one, other)]
            self.assertEqual(min(pairs, default=None), split_pair(list(row)))
            self.assertEqual(split_pair(row), split_pair([*row[::-1], *row]))

    def test_split_pair_of_all_questions(self):
        self.assertEqual((((), "a"), ((), "b")), split_pair(all_questions("abcd")))
        self.assertEqual((((), "b"), (("a",), "")), split_pair([(("a",), ""), ((), "b"), ((), "b")]))

    def test_split_pair_changes_nothing(self):
        questions = [BOTH, LATE, NEAR, LATE]
        split_pair(questions)
        self.assertEqual([BOTH, LATE, NEAR, LATE], questions)

    def test_a_last_column_is_of_account_for_split_pair(self):
        chain = [(tuple("abcdefghijkl")[:many], "") for many in range(1, 13)]
        self.assertIsNone(split_pair(chain))
        self.assertEqual(((("a",), "c"), (("a", "b"), "")), split_pair([*chain, (("a",), "c")]))


if __name__ == "__main__":
    unittest.main()
