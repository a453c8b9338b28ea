import unittest
from itertools import permutations

from narrowkeys.asked import Asked
from narrowkeys.errors import Apart, NoNumber, Unfit
from narrowkeys.indexes import index_for, questions_of
from narrowkeys.orders import count_orders, order_at, order_number
from narrowkeys.questions import asking, split_pair
from narrowkeys.shelves import Shelf
from odd import all_indexes, all_share, fits, no_indexes, no_numbers, odd_values
from plain import some_questions

SOME = [asking("b"), asking("d", "a", "c", "b", last="e")]
APART = [asking("b"), asking("a", last="b"), asking("a"), asking("b")]
TWELVE = "abcdefghijkl"


def searched(questions, columns):
    """All indexes with as few columns as possible that serve all of questions."""
    found = [index for index in all_indexes(columns) if all(fits(index, question) for question in questions)]
    return sorted(index for index in found if len(index) == min(len(one) for one in found))


class OrdersTest(unittest.TestCase):
    def raises(self, error, call, *arguments):
        with self.assertRaises(error) as caught:
            call(*arguments)
        return caught.exception

    def check(self, questions, rows):
        self.assertEqual(len(rows), count_orders(questions))
        self.assertEqual(rows, [order_at(questions, number) for number in range(len(rows))])
        self.assertEqual(list(range(len(rows))), [order_number(questions, index) for index in rows])
        self.assertEqual(index_for(questions), rows[0])

    def test_the_printed_answers(self):
        self.assertEqual([6, ("b", "a", "c", "d", "e"), ("b", "d", "c", "a", "e")],
                         [count_orders(SOME), order_at(SOME, 0), order_at(SOME, 5)])
        self.check(SOME, [("b", *row, "e") for row in sorted(permutations("acd"))])

    def test_all_by_a_search(self):
        tried = 0
        for questions in some_questions(700, 4, "abcd", seed=31):
            if questions and all_share(questions):
                self.check(questions, searched(questions, "abcd"))
                self.check(tuple(questions[::-1] * 2), searched(questions, "abcd"))
                tried += len(questions) > 1
        self.assertGreater(tried, 20)

    def test_questions_of_one_index_by_a_search(self):
        for index in all_indexes("abcd")[::3]:
            questions = questions_of(index)
            for at in range(len(questions)):
                for some in (questions[at:], questions[:at + 1], questions[at::2]):
                    self.check(some, searched(some, "abcd"))

    def test_others_are_no_orders(self):
        for questions in some_questions(200, 3, "abc", seed=32):
            if questions and all_share(questions):
                rows = searched(questions, "abcd")
                for index in all_indexes("abcd"):
                    if index not in rows:
                        self.raises(Unfit, order_number, questions, index)

    def test_one_question(self):
        self.check([asking("a")], [("a",)])
        self.check([asking(last="a")], [("a",)])
        self.check([asking("a", last="b")], [("a", "b")])
        self.check([asking("b", "a")], [("a", "b"), ("b", "a")])
        self.check((asking("c", "b", last="a"),), [("b", "c", "a"), ("c", "b", "a")])
        self.check([asking(last="a"), asking("a")], [("a",)])

    def test_questions_that_stand_several_times(self):
        many = [SOME[1], SOME[0], SOME[1], SOME[0], SOME[0]]
        self.assertEqual([6, ("b", "d", "c", "a", "e"), 5],
                         [count_orders(many), order_at(many, 5), order_number(many, ("b", "d", "c", "a", "e"))])
        self.assertEqual([SOME[1], SOME[0], SOME[1], SOME[0], SOME[0]], many)

    def test_twelve_columns(self):
        whole = [asking(*TWELVE)]
        count = 479001600
        self.assertEqual(count, count_orders(whole))
        self.assertEqual(tuple(TWELVE), order_at(whole, 0))
        self.assertEqual(tuple(TWELVE[::-1]), order_at(whole, count - 1))
        self.assertEqual(("b", "a", *TWELVE[2:]), order_at(whole, count // 12))
        self.assertEqual((*TWELVE[:10], "l", "k"), order_at(whole, 1))
        self.assertEqual(count - 1, order_number(whole, tuple(TWELVE[::-1])))
        for number in (0, 1, 2, 123456789, 400000000, count - 2, count - 1):
            self.assertEqual(number, order_number(whole, order_at(whole, number)))
        for number in (count, count + 1, -1, -count):
            self.assertIs(number, self.raises(NoNumber, order_at, whole, number).number)
        self.raises(Unfit, order_number, whole, tuple(TWELVE[:11]))
        self.raises(Unfit, order_number, whole, (*TWELVE, "m"))

    def test_twelve_columns_in_blocks(self):
        row = [asking(*TWELVE[:11], last="l"), asking(*"abcd"), asking(*"abcde", last="f")]
        count = 24 * 120
        self.assertEqual(count, count_orders(row))
        self.assertEqual([tuple(TWELVE), tuple("dcbaefkjihgl")], [order_at(row, 0), order_at(row, count - 1)])
        self.assertEqual([count - 1, count], [order_number(row, tuple("dcbaefkjihgl")), count_orders(row)])
        found = [order_at(row, number) for number in range(count)]
        self.assertEqual(sorted(set(found)), found)
        self.assertEqual(list(range(count)), [order_number(row, index) for index in found])

    def test_one_order_alone(self):
        row = [question for at in range(12) for question in (asking(*TWELVE[:at], last=TWELVE[at]),)]
        self.check(row, [tuple(TWELVE)])
        self.assertEqual(1, self.raises(NoNumber, order_at, row, 1).number)

    def test_questions_that_cannot_share(self):
        pair = split_pair(APART)
        for some in (APART, tuple(APART), APART[::-1]):
            self.assertEqual(pair, self.raises(Apart, count_orders, some).pair)
            # Apart comes ahead of NoNumber and Unfit, whatever is asked.
            for thing in [*odd_values(), 0, 1, ("a", "b")]:
                self.assertEqual(pair, self.raises(Apart, order_at, some, thing).pair)
                self.assertEqual(pair, self.raises(Apart, order_number, some, thing).pair)

    def test_any_value_may_be_no_number(self):
        for thing in [*no_numbers(6), SOME, Asked(SOME)]:
            self.assertIs(thing, self.raises(NoNumber, order_at, SOME, thing).number)
        self.assertEqual([6, ("b", "c", "a", "d", "e")], [count_orders(SOME), order_at(SOME, 2)])
        single = [asking("a")]
        for thing in (True, False, 1, -1, None, "0", 10 ** 39):
            self.assertIs(thing, self.raises(NoNumber, order_at, single, thing).number)

    def test_any_value_may_be_no_order(self):
        for thing in [*no_indexes(), list("bacde"), "bacde", ("b", "a", "c", "d"), ("b", "a", "c", "d", "e", "f"),
                      ("a", "b", "c", "d", "e"), ("b", "a", "c", "e", "d"), ("b", "a", "c", "d", "f"),
                      ("b", "a", "c", "c", "e"), Shelf([("b", "a", "c", "d", "e")]), [("b", "a", "c", "d", "e")]]:
            self.raises(Unfit, order_number, SOME, thing)
        for thing in no_indexes():
            self.raises(Unfit, order_number, [asking("a")], thing)
            self.raises(Unfit, order_number, [asking("z", "y")], thing)
        self.assertEqual(0, order_number(SOME, ("b", "a", "c", "d", "e")))

    def test_equal_arguments_give_equal_results(self):
        for questions in (list(SOME), tuple(SOME), SOME[::-1]):
            for _ in range(2):
                self.assertEqual([6, ("b", "c", "d", "a", "e"), 3],
                                 [count_orders(questions), order_at(questions, 3), order_number(questions, tuple("bcdae"))])

    def test_other_names_give_as_many_orders(self):
        names = {"a": "z", "b": "y", "c": "x", "d": "w"}
        for questions in some_questions(300, 3, "abcd", seed=33):
            if questions and all_share(questions):
                renamed = Asked(questions).renamed(names).questions()
                rows = [tuple(names[column] for column in index) for index in searched(questions, "abcd")]
                self.check(renamed, sorted(rows))


if __name__ == "__main__":
    unittest.main()
