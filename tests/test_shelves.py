import unittest

from narrowkeys.errors import NoNumber, TooMany, Wrong
from narrowkeys.shelves import Shelf
from odd import Same, all_indexes, deep, no_indexes, no_numbers, odd_values

ROWS = [("city", "born"), ("name",)]
MANY = all_indexes("abcd")[:49]


class ShelfTest(unittest.TestCase):
    def setUp(self):
        self.shelf = Shelf(ROWS)

    def raises(self, error, call, *arguments):
        with self.assertRaises(error) as caught:
            call(*arguments)
        return caught.exception

    def test_the_printed_shelf(self):
        self.assertEqual(("name",), self.shelf[1])
        self.assertEqual(("city", "born"), self.shelf[0])
        self.assertEqual(2, len(self.shelf))
        self.assertEqual(ROWS, list(self.shelf))
        self.assertEqual(ROWS, self.shelf.indexes())
        self.assertEqual(["born", "city", "name"], self.shelf.columns())

    def test_no_index(self):
        for empty in (Shelf([]), Shelf(())):
            self.assertEqual([0, [], [], []], [len(empty), list(empty), empty.indexes(), empty.columns()])
            self.assertEqual(Shelf([]), empty)
            self.assertIs(("a",) in empty, False)
            self.assertEqual(0, self.raises(NoNumber, lambda: empty[0]).number)
            self.assertEqual(0, self.raises(NoNumber, empty.without, 0).number)
            self.assertEqual(empty, empty.renamed({}))
            self.assertEqual(empty, empty + empty)

    def test_the_order_and_equal_indexes_stay(self):
        rows = [("b",), ("a",), ("b",), ("a", "b"), ("b",)]
        shelf = Shelf(tuple(rows))
        self.assertEqual(rows, list(shelf))
        self.assertEqual(rows, shelf.indexes())
        self.assertEqual(rows, [shelf[number] for number in range(5)])
        self.assertEqual(["a", "b"], shelf.columns())
        self.assertEqual(5, len(shelf))

    def test_wrong_lists(self):
        for thing in odd_values():
            if not isinstance(thing, (list, tuple)) or list(thing) not in ([], [("a",)]):
                self.assertEqual(0, self.raises(Wrong, Shelf, thing).place)
        for thing in ("a", ("a",), ("a", "b"), ["a"], {("a",): 1}, {("a",)}, Shelf(ROWS), iter(ROWS), "ab"):
            self.assertEqual(0, self.raises(Wrong, Shelf, thing).place)

    def test_wrong_indexes_inside(self):
        for thing in no_indexes():
            if thing != ("a",):
                self.assertEqual(0, self.raises(Wrong, Shelf, [thing]).place)
                self.assertEqual(0, self.raises(Wrong, Shelf, (("a",), thing)).place)
                self.assertEqual(0, self.raises(Wrong, Shelf, [("a",), thing, ("b",)]).place)

    def test_wrong_columns_inside(self):
        for thing in [*odd_values(), "", 1, ("a",)]:
            self.assertEqual(0, self.raises(Wrong, Shelf, [(thing,)]).place)
            self.assertEqual(0, self.raises(Wrong, Shelf, [("b",), ("a", thing)]).place)

    def test_wrong_comes_before_too_many(self):
        self.assertEqual(0, self.raises(Wrong, Shelf, [*MANY, None]).place)
        self.assertEqual(0, self.raises(Wrong, Shelf, [*MANY, ("a", "a")]).place)
        self.assertEqual(0, self.raises(Wrong, Shelf, [deep("a", 36), *MANY]).place)

    def test_forty_eight_and_forty_nine(self):
        self.assertEqual(MANY[:48], list(Shelf(MANY[:48])))
        self.assertEqual(48, self.raises(TooMany, Shelf, MANY).limit)
        self.assertEqual(48, len(Shelf([("a",)] * 48)))
        self.assertEqual(48, self.raises(TooMany, Shelf, [("a",)] * 49).limit)
        self.assertEqual(48, self.raises(TooMany, Shelf, (("a",),) * 9000).limit)

    def test_lists_are_copied(self):
        rows = list(ROWS)
        shelf = Shelf(rows)
        rows.append(("a",))
        rows[0] = ("b",)
        self.assertEqual(ROWS, list(shelf))
        for told in (shelf.indexes(), shelf.columns()):
            told.append(("x",))
            told[0] = ("y",)
        self.assertEqual(ROWS, shelf.indexes())
        self.assertEqual(["born", "city", "name"], shelf.columns())
        self.assertEqual(Shelf(ROWS), shelf)

    def test_told_lists_are_new(self):
        self.assertIsNot(self.shelf.indexes(), self.shelf.indexes())
        self.assertIsNot(self.shelf.columns(), self.shelf.columns())

    def test_in(self):
        self.assertIs(("name",) in self.shelf, True)
        self.assertIs(("city", "born") in self.shelf, True)
        self.assertIs(("born", "city") in self.shelf, False)
        self.assertIs(("city",) in self.shelf, False)
        for thing in [*no_indexes(), self.shelf, ["name"], ROWS]:
            self.assertIs(thing in self.shelf, False)

    def test_equal(self):
        self.assertIs(self.shelf == Shelf(tuple(ROWS)), True)
        self.assertIs(self.shelf != Shelf(tuple(ROWS)), False)
        self.assertIs(self.shelf == Shelf(ROWS[::-1]), False)
        self.assertIs(self.shelf != Shelf(ROWS[::-1]), True)
        self.assertIs(self.shelf == Shelf([*ROWS, ROWS[0]]), False)
        self.assertIs(Shelf([("a", "b")]) == Shelf([("b", "a")]), False)
        for thing in [*odd_values(), ROWS, tuple(ROWS), "", "a"]:
            if not isinstance(thing, Same):
                self.assertIs(self.shelf == thing, False)
                self.assertIs(thing == self.shelf, False)
                self.assertIs(self.shelf != thing, True)
        self.assertIs(self.shelf == Same(), False)
        self.assertIs(Shelf([]) == [], False)
        self.assertIs(Shelf([]) == (), False)

    def test_sum(self):
        other = Shelf([("a",), ("name",)])
        self.assertEqual([*ROWS, ("a",), ("name",)], list(self.shelf + other))
        self.assertEqual([("a",), ("name",), *ROWS], list(other + self.shelf))
        self.assertEqual(ROWS, list(self.shelf))
        self.assertEqual([("a",), ("name",)], list(other))

    def test_sum_of_forty_eight_and_forty_nine(self):
        one, other = Shelf(MANY[:24]), Shelf(MANY[24:48])
        self.assertEqual(MANY[:48], list(one + other))
        self.assertEqual(48, self.raises(TooMany, lambda: one + other.with_index(("a",))).limit)
        self.assertEqual(48, self.raises(TooMany, lambda: Shelf(MANY[:48]) + Shelf(MANY[:48])).limit)
        self.assertEqual([24, 24], [len(one), len(other)])

    def test_item(self):
        for number, index in enumerate(ROWS):
            self.assertEqual(index, self.shelf[number])
        for number in [*no_numbers(2), slice(0, 1)]:
            self.assertIs(number, self.raises(NoNumber, lambda: self.shelf[number]).number)
        for number in (True, False):
            self.assertIs(number, self.raises(NoNumber, lambda: self.shelf[number]).number)

    def test_with_index(self):
        self.assertEqual([*ROWS, ("a", "b")], list(self.shelf.with_index(("a", "b"))))
        self.assertEqual([*ROWS, ROWS[0]], list(self.shelf.with_index(ROWS[0])))
        self.assertEqual(ROWS, list(self.shelf))
        full = Shelf(MANY[:47]).with_index(MANY[47])
        self.assertEqual(MANY[:48], list(full))
        self.assertEqual(48, self.raises(TooMany, full.with_index, ("a",)).limit)
        self.assertEqual(MANY[:48], list(full))

    def test_without(self):
        self.assertEqual([ROWS[1]], list(self.shelf.without(0)))
        self.assertEqual([ROWS[0]], list(self.shelf.without(1)))
        self.assertEqual(ROWS, list(self.shelf))
        doubles = Shelf([("a",), ("b",), ("a",)])
        self.assertEqual([("b",), ("a",)], list(doubles.without(0)))
        self.assertEqual([("a",), ("b",)], list(doubles.without(2)))
        for number in no_numbers(2):
            self.assertIs(number, self.raises(NoNumber, self.shelf.without, number).number)
        for number in (True, False):
            self.assertIs(number, self.raises(NoNumber, self.shelf.without, number).number)
        self.assertEqual(ROWS, list(self.shelf))

    def test_renamed(self):
        shelf = Shelf([("a", "b"), ("c",), ("b", "a", "c"), ("c",)])
        names = {"a": "x", "b": "y", "c": "z", "other": "w"}
        self.assertEqual([("x", "y"), ("z",), ("y", "x", "z"), ("z",)], list(shelf.renamed(names)))
        self.assertEqual({"a": "x", "b": "y", "c": "z", "other": "w"}, names)
        self.assertEqual([("a", "b"), ("c",), ("b", "a", "c"), ("c",)], list(shelf))

    def test_names_are_exchanged_all_at_once(self):
        shelf = Shelf([("a", "b"), ("c",), ("b", "a", "c")])
        names = {"c": "a", "a": "b", "b": "c"}
        self.assertEqual([("b", "c"), ("a",), ("c", "b", "a")], list(shelf.renamed(names)))
        self.assertEqual(shelf, shelf.renamed(names).renamed(names).renamed(names))

    def test_asking_twice_tells_the_same(self):
        for _ in range(2):
            self.assertEqual([list(self.shelf)] * 2, [self.shelf.indexes(), ROWS])
            self.assertEqual(2, len([index for index in self.shelf]))
            self.assertEqual(Shelf([ROWS[0]]), self.shelf.without(1))


if __name__ == "__main__":
    unittest.main()
