import unittest

from narrowkeys.asked import Asked
from narrowkeys.errors import NoColumn, Unfit, Wrong
from narrowkeys.questions import asking
from narrowkeys.shelves import Shelf
from narrowkeys.weights import Weights
from odd import Same, deep, no_columns, no_weights, odd_values

GREATEST = 10 ** 30
LATE = asking("city", last="born")


class WeightsTest(unittest.TestCase):
    def raises(self, error, call, *arguments):
        with self.assertRaises(error) as caught:
            call(*arguments)
        return caught.exception

    def put(self, weights, column, number):
        weights[column] = number

    def test_the_printed_answers(self):
        weights = Weights({"city": 4})
        weights["city"] = 5
        self.assertEqual([5, 1, 6, {"city": 5}],
                         [weights["city"], weights["day"], weights(LATE), weights.table()])

    def test_nothing_told(self):
        weights = Weights({})
        self.assertEqual([1, {}, 2, 3], [weights["a"], weights.table(), weights(LATE), weights(("a", "b", "c"))])
        self.assertIs(weights == Weights({}), True)

    def test_weights_of_questions_and_indexes(self):
        weights = Weights({"a": 2, "b": 30, "c": 400})
        for thing, weight in (((("a",), ""), 2), (((), "b"), 30), ((("a", "b"), ""), 32), ((("a", "c"), "b"), 432),
                              ((("a", "d"), ""), 3), (("a",), 2), (("b", "a"), 32), (("c", "d", "e", "a"), 404),
                              (("d",), 1), (((), "d"), 1), (((("a", "b", "c"), "d")), 433)):
            self.assertEqual(weight, weights(thing))

    def test_a_weight_of_one_is_as_if_it_were_not_told(self):
        weights = Weights({"a": 1, "b": 2, "c": 1})
        self.assertEqual({"b": 2}, weights.table())
        self.assertIs(weights == Weights({"b": 2}), True)
        weights["b"] = 1
        self.assertEqual([1, {}], [weights["b"], weights.table()])
        self.assertIs(weights == Weights({}), True)
        self.assertIs(Weights({}) == weights, True)
        weights["d"] = 1
        self.assertEqual({}, weights.table())
        weights["b"] = 2
        weights["a"] = 3
        self.assertEqual([2, 3, {"a": 3, "b": 2}], [weights["b"], weights["a"], weights.table()])

    def test_tables_are_ascending(self):
        weights = Weights({"c": 3, "a": 2, "ab": 7, "b": 4})
        weights["aa"] = 9
        weights["c"] = 5
        self.assertEqual(["a", "aa", "ab", "b", "c"], list(weights.table()))
        self.assertEqual([2, 9, 7, 4, 5], list(weights.table().values()))

    def test_least_and_greatest_weights(self):
        weights = Weights({"a": GREATEST, "abcdefgh": 2})
        self.assertEqual([GREATEST, 2], [weights["a"], weights["abcdefgh"]])
        weights["b"] = GREATEST
        self.assertEqual(2 * GREATEST, weights(("b", "a")))
        for number in (GREATEST + 1, 0, -1):
            self.assertEqual(0, self.raises(Wrong, Weights, {"a": number}).place)
            self.raises(Unfit, self.put, weights, "a", number)
        self.assertEqual({"a": GREATEST, "abcdefgh": 2, "b": GREATEST}, weights.table())

    def test_wrong_tables(self):
        for thing in [*odd_values(), [("a", 2)], (("a", 2),), "a", ("a", 2), Weights({"a": 2}), {"a"}, iter({"a": 2})]:
            if not isinstance(thing, dict) or thing and thing != {"a": 1}:
                self.assertEqual(0, self.raises(Wrong, Weights, thing).place)
        for thing in no_weights(GREATEST):
            self.assertEqual(0, self.raises(Wrong, Weights, {"a": thing}).place)
            self.assertEqual(0, self.raises(Wrong, Weights, {"b": 2, "a": thing, "c": 3}).place)
        for thing in no_columns():
            if not isinstance(thing, (list, dict, set, Asked, Shelf, Weights)) and self.can_be_a_key(thing):
                self.assertEqual(0, self.raises(Wrong, Weights, {thing: 2}).place)
                self.assertEqual(0, self.raises(Wrong, Weights, {"b": 2, thing: 1, "c": 3}).place)
        self.assertEqual(0, self.raises(Wrong, Weights, {"a": deep(2, 36)}).place)

    def can_be_a_key(self, thing):
        try:
            hash(thing)
        except TypeError:
            return False
        return True

    def test_any_value_may_be_no_column(self):
        weights = Weights({"a": 2})
        for thing in no_columns():
            self.assertIs(thing, self.raises(NoColumn, lambda: weights[thing]).column)
            for number in (1, 3, 0, None, True, GREATEST + 1, thing):
                # NoColumn comes ahead of Unfit.
                self.assertIs(thing, self.raises(NoColumn, self.put, weights, thing, number).column)
        self.assertEqual({"a": 2}, weights.table())

    def test_any_value_may_be_no_weight(self):
        weights = Weights({"a": 2})
        for thing in no_weights(GREATEST):
            self.raises(Unfit, self.put, weights, "a", thing)
            self.raises(Unfit, self.put, weights, "b", thing)
            self.assertEqual({"a": 2}, weights.table())
            # A good call goes behind one that raises.
            weights["b"] = 3
            self.assertEqual([2, 3, 5], [weights["a"], weights["b"], weights(("a", "b"))])
            weights["b"] = 1

    def test_dicts_are_copied(self):
        table = {"b": 3, "a": 2}
        weights = Weights(table)
        table["a"] = 9
        table["c"] = 4
        self.assertEqual({"a": 2, "b": 3}, weights.table())
        weights["b"] = 7
        self.assertEqual({"a": 9, "b": 3, "c": 4}, table)
        told = weights.table()
        told["a"] = 9
        told.pop("b")
        self.assertEqual([2, 7, {"a": 2, "b": 7}], [weights["a"], weights["b"], weights.table()])

    def test_copies_go_on_by_themselves(self):
        weights = Weights({"a": 2, "b": 3})
        copy = weights.copied()
        self.assertIsInstance(copy, Weights)
        self.assertIs(copy == weights, True)
        copy["a"] = 5
        weights["b"] = 1
        weights["c"] = 8
        self.assertEqual([{"a": 5, "b": 3}, {"a": 2, "c": 8}], [copy.table(), weights.table()])
        self.assertIs(copy == weights, False)
        self.assertEqual(copy, copy.copied())
        self.assertEqual(Weights({}), Weights({}).copied())

    def test_equal(self):
        weights = Weights({"a": 2, "b": 3})
        self.assertIs(weights == Weights({"b": 3, "a": 2, "c": 1}), True)
        self.assertIs(weights != Weights({"b": 3, "a": 2, "c": 1}), False)
        for other in ({"a": 2}, {"a": 2, "b": 4}, {"a": 2, "c": 3}, {"a": 2, "b": 3, "c": 2}, {}):
            self.assertIs(weights == Weights(other), False)
            self.assertIs(weights != Weights(other), True)
        for thing in [*odd_values(), {"a": 2, "b": 3}, weights.table(), "", 5]:
            if not isinstance(thing, (Same, Weights)):
                self.assertIs(weights == thing, False)
                self.assertIs(thing == weights, False)
        self.assertIs(weights == Same(), False)
        self.assertIs(Weights({}) == {}, False)
        self.assertIs(Weights({}) == Asked([]), False)

    def test_asking_changes_nothing(self):
        weights = Weights({"a": 2})
        for _ in range(2):
            self.assertEqual([2, 1, 3, {"a": 2}], [weights["a"], weights["b"], weights(("a", "b")), weights.table()])
        self.assertIs(weights == Weights({"a": 2}), True)


if __name__ == "__main__":
    unittest.main()
