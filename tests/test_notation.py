import unittest

from narrowkeys.asked import Asked
from narrowkeys.notation import show_asked, show_index, show_question, show_shelf, show_weights
from narrowkeys.questions import asking
from narrowkeys.readers import read_asked, read_index, read_question, read_shelf, read_weights
from narrowkeys.shelves import Shelf
from narrowkeys.weights import Weights
from odd import all_indexes, all_questions, samples
from plain import some_tables

NEAR, LATE, BOTH = asking("city"), asking("city", last="born"), asking("name", "city")
WIDE = tuple("abcdefghijkl")
GREATEST = 10 ** 30


class NotationTest(unittest.TestCase):
    def test_the_printed_answers(self):
        self.assertEqual(["city > born", "> day", "city, born\nname\n"],
                         [show_question(LATE), show_question(asking(last="day")),
                          show_shelf(Shelf([("city", "born"), ("name",)]))])

    def test_questions(self):
        for question, text in ((NEAR, "city"), (BOTH, "city name"), (asking("b", "a", last="c"), "a b > c"),
                               (asking(last="a"), "> a"), (asking("z", last="a"), "z > a"), (asking("a"), "a"),
                               (asking(*WIDE[::-1]), "a b c d e f g h i j k l"), (asking(last="abcdefgh"), "> abcdefgh"),
                               (asking(*WIDE[1:], last="a"), "b c d e f g h i j k l > a")):
            self.assertEqual(text, show_question(question))

    def test_indexes(self):
        for index, text in ((("a",), "a"), (("b", "a"), "b, a"), (("city", "born", "name"), "city, born, name"),
                            (WIDE[::-1], "l, k, j, i, h, g, f, e, d, c, b, a")):
            self.assertEqual(text, show_index(index))

    def test_lists_of_questions(self):
        # The order is that of the questions, not that of the texts.
        asked = Asked([BOTH, LATE, NEAR, asking(last="z")])
        self.assertEqual("> z\ncity\ncity > born\ncity name\n", show_asked(asked))
        self.assertEqual("a b\nab\n", show_asked(Asked([asking("ab"), asking("a", "b")])))
        self.assertEqual("a > b\na b\n", show_asked(Asked([asking("a", "b"), asking("a", last="b")])))

    def test_shelves(self):
        row = [("b", "a"), ("a",), ("b", "a"), ("city",)]
        self.assertEqual("b, a\na\nb, a\ncity\n", show_shelf(Shelf(row)))
        self.assertEqual("city\nb, a\na\nb, a\n", show_shelf(Shelf(row[::-1][:1] + row[:3])))

    def test_weights(self):
        weights = Weights({"z": 2, "b": 10 ** 30, "a": 1, "ab": 19})
        self.assertEqual(f"ab 19\nb 1{'0' * 30}\nz 2\n", show_weights(weights))
        weights["a"] = 10
        weights["b"] = 1
        self.assertEqual("a 10\nab 19\nz 2\n", show_weights(weights))
        self.assertEqual({"a": 10, "ab": 19, "z": 2}, weights.table())

    def test_nothing(self):
        self.assertEqual([""] * 4, [show_asked(Asked([])), show_shelf(Shelf([])), show_weights(Weights({})),
                                    show_weights(Weights({"a": 1}))])

    def test_texts_of_forty_eight_lines(self):
        questions = all_questions("abcde")[:48]
        text = show_asked(Asked(questions[::-1]))
        self.assertEqual("".join(show_question(question) + "\n" for question in questions), text)
        self.assertEqual(48, text.count("\n"))
        self.assertEqual(Asked(questions), read_asked(text))
        rows = all_indexes("abcd")[:47] + [("a",)]
        text = show_shelf(Shelf(rows))
        self.assertEqual("".join(", ".join(index) + "\n" for index in rows), text)
        self.assertEqual(Shelf(rows), read_shelf(text))

    def test_texts_are_read_back(self):
        for question in all_questions("abcd"):
            self.assertEqual(question, read_question(show_question(question)))
        for index in all_indexes("abcd"):
            self.assertEqual(index, read_index(show_index(index)))
        for row, questions in samples(60):
            self.assertEqual(Asked(questions), read_asked(show_asked(Asked(questions))))
            self.assertEqual(Shelf(row), read_shelf(show_shelf(Shelf(row))))
        for table in some_tables(60, "abcdefgh"):
            weights = Weights(table)
            self.assertEqual(weights, read_weights(show_weights(weights)))
            self.assertEqual(Weights(table), weights)

    def test_unlike_ones_have_unlike_texts(self):
        for things, show in ((all_questions("abcd"), show_question), (all_indexes("abcd"), show_index)):
            self.assertEqual(len(things), len({show(thing) for thing in things}))

    def test_equal_ones_have_equal_texts(self):
        self.assertEqual(show_weights(Weights({"a": 2, "b": 3})), show_weights(Weights({"b": 3, "c": 1, "a": 2})))
        self.assertEqual(show_asked(Asked([NEAR, LATE])), show_asked(Asked((LATE, NEAR, LATE))))
        self.assertEqual(str, type(show_asked(Asked([NEAR]))))

    def test_other_names_give_other_texts(self):
        names = {"city": "a", "born": "z", "name": "b"}
        shelf = Shelf([("city", "born"), ("name",)])
        self.assertEqual("a, z\nb\n", show_shelf(shelf.renamed(names)))
        self.assertEqual("a > z\na b\n", show_asked(Asked([BOTH, LATE]).renamed(names)))


if __name__ == "__main__":
    unittest.main()
