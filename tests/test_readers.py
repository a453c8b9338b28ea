import random
import unittest
from itertools import combinations, product

from narrowkeys.asked import Asked
from narrowkeys.errors import KeysError, NoText
from narrowkeys.notation import show_asked, show_index, show_question, show_shelf, show_weights
from narrowkeys.questions import asking
from narrowkeys.readers import read_asked, read_index, read_question, read_shelf, read_weights
from narrowkeys.shelves import Shelf
from narrowkeys.weights import Weights
from odd import Same, all_indexes, all_questions, odd_values

READERS = (read_question, read_index, read_asked, read_shelf, read_weights)
GREATEST = 10 ** 30


def strings(signs, most):
    return ["".join(row) for many in range(most + 1) for row in product(signs, repeat=many)]


def neighbours(text, signs):
    """All texts with one sign out, more or otherwise, and with two beside each other exchanged."""
    for at in range(len(text) + 1):
        for sign in signs:
            yield text[:at] + sign + text[at:]
            yield text[:at] + sign + text[at + 1:]
        yield text[:at] + text[at + 1:]
        yield text[:at] + text[at:at + 2][::-1] + text[at + 2:]


class ReadersTest(unittest.TestCase):
    def refuses(self, read, text):
        with self.assertRaises(NoText) as caught:
            read(text)
        self.assertIsInstance(caught.exception, KeysError)
        self.assertEqual({}, vars(caught.exception))

    def check(self, read, known, text):
        """known is a dict from all right texts of this kind to what they are the texts of."""
        if text in known:
            self.assertEqual(known[text], read(text))
        else:
            self.refuses(read, text)

    def test_the_printed_answer(self):
        self.assertEqual(asking("name", "city"), read_question("city name"))

    def test_all_short_texts_of_questions(self):
        columns = ["a", "b", "aa", "ab", "ba", "bb", "aaa"]
        known = {show_question(question): question for question in all_questions(columns)}
        for text in strings("ab> ", 6):
            if not any(len(part) > 2 for part in text.replace(">", " ").split()):
                self.check(read_question, known, text)

    def test_all_short_texts_of_indexes(self):
        columns = ["a", "b", "aa", "ab", "ba", "bb"]
        known = {show_index(index): index for index in all_indexes(columns) if len(index) < 4}
        for text in strings("ab, ", 6):
            if not any(len(part) > 2 for part in text.replace(",", " ").split()):
                self.check(read_index, known, text)

    def test_all_short_texts_of_lists_of_questions(self):
        questions = all_questions("ab")
        lists = [Asked(part) for many in range(8) for part in combinations(questions, many)]
        known = {show_asked(asked): asked for asked in lists}
        self.assertEqual(2 ** 7, len(known))
        for text in strings("ab> \n", 6):
            if not any(len(part) > 1 for part in text.replace(">", " ").split()):
                self.check(read_asked, known, text)

    def test_all_short_texts_of_shelves(self):
        shelves = [Shelf(part) for many in range(4) for part in product(all_indexes("ab"), repeat=many)]
        known = {show_shelf(shelf): shelf for shelf in shelves}
        for text in strings("ab, \n", 6):
            if not any(len(part) > 1 for part in text.replace(",", " ").split()):
                self.check(read_shelf, known, text)

    def test_all_short_texts_of_weights(self):
        tables = [{"a": one} for one in range(2, 1000)] + [{"b": one} for one in range(2, 1000)] + [{}]
        tables.extend({"a": one, "b": other} for one in range(2, 10) for other in range(2, 10))
        known = {show_weights(Weights(table)): Weights(table) for table in tables}
        for text in [*strings("ab012 \n", 5), *[f"a {one}\nb {other}\n" for one in "012" for other in "012"]]:
            if not any(len(part) > 1 for part in text.split() if not part.isdigit()):
                self.check(read_weights, known, text)

    def test_texts_with_one_sign_otherwise(self):
        row = Asked([asking("city"), asking("city", last="born"), asking(last="d"), asking("a", "b", last="c")])
        shelf = Shelf([("city", "born"), ("name",), ("b", "a", "c"), ("name",)])
        weights = Weights({"city": 12, "a": 5, "name": 100})
        for thing, show, read in ((row, show_asked, read_asked), (shelf, show_shelf, read_shelf),
                                  (weights, show_weights, read_weights)):
            text = show(thing)
            self.assertEqual(thing, read(text))
            for other in neighbours(text, "az,> \n012-+A\t"):
                try:
                    found = read(other)
                except NoText:
                    continue
                self.assertEqual(other, show(found))
                self.assertEqual(other == text, found == thing)

    def test_lines_and_words_out_more_and_exchanged(self):
        chance = random.Random(3)
        texts = (
            (show_asked(Asked(chance.sample(all_questions("abcd"), 9))), show_asked, read_asked),
            (show_shelf(Shelf(chance.sample(all_indexes("abcd"), 9))), show_shelf, read_shelf),
            (show_weights(Weights({column: chance.randrange(2, 99) for column in "abcdefghi"})), show_weights, read_weights),
        )
        for text, show, read in texts:
            for gap in ("\n", " "):
                parts = text.split(gap)
                for at, part in enumerate(parts):
                    rows = [parts[:at] + parts[at + 1:], parts[:at] + [part, part] + parts[at + 1:], parts[at:] + parts[:at],
                            parts[:at] + parts[at:at + 2][::-1] + parts[at + 2:], parts[:at] + [""] + parts[at:]]
                    for other in [gap.join(row) for row in rows]:
                        try:
                            self.assertEqual(other, show(read(other)))
                        except NoText:
                            self.assertNotEqual(text, other)

    def test_right_texts_at_the_edges(self):
        self.assertEqual([Asked([]), Shelf([]), Weights({})], [read_asked(""), read_shelf(""), read_weights("")])
        self.assertEqual(asking(last="abcdefgh"), read_question("> abcdefgh"))
        self.assertEqual(asking("a", "aa", last="b"), read_question("a aa > b"))
        self.assertEqual(("ask", "back", "more"), read_index("ask, back, more"))
        self.assertEqual(asking("ask", "back", last="more"), read_question("ask back > more"))
        self.assertEqual(Weights({"weigh": 7, "ask": 2}), read_weights("ask 2\nweigh 7\n"))
        self.assertEqual(Shelf([("a",), ("a",)]), read_shelf("a\na\n"))

    def test_wrong_texts(self):
        for text in ("", " ", ">", "> ", " > a", "a >", "a > ", "a> b", "a >b", ">a", "a  > b", "a >  b", "a > b ", " a",
                     "a ", "a  b", "b a", "a a", "a > a", "a b > a", "a > b c", "a > b > c", "> a > b", "> > a", "a\n",
                     "a\tb", "a,b", "a, b", "A", "a1", "abcdefghi", "a > abcdefghi", "a\n> b", "\na", "a > b\n", "> A"):
            self.refuses(read_question, text)
        for text in ("", " ", ",", ", ", "a,", "a, ", ", a", "a,b", "a , b", "a,  b", "a, b ", " a, b", "a, a", "a b", "a;b",
                     "a, b\n", "a\n", "\na", "A, b", "a, b1", "a, abcdefghi", "a, b, a", "a,\nb", "a > b", "a, , b"):
            self.refuses(read_index, text)

    def test_wrong_lists(self):
        for text in ("\n", "a", "a\n\n", "\na\n", "a\nb", "b\na\n", "a\na\n", "a \n", " a\n", "a\n ", "a\r\nb\n", "a\n> b\n",
                     "a b\na > b\n", "a\n\nb\n", "a, b\n", "> a\n> a\n", "a\tb\n", "a\nB\n"):
            self.refuses(read_asked, text)
        for text in ("\n", "a", "a\n\n", "\na\n", "a\nb", "a \n", " a\n", "a\n ", "a\r\nb\n", "a,b\n", "a, a\n", "a b\n", "> a\n",
                     "a, b\na,\n", "a\n\nb\n", "a\nB\n"):
            self.refuses(read_shelf, text)
        self.assertEqual(Shelf([("b",), ("a",), ("b",)]), read_shelf("b\na\nb\n"))

    def test_wrong_weights(self):
        for text in ("\n", "a 2", "a 2\n\n", "\na 2\n", "a\n", "a \n", "2\n", " 2\n", "a 0\n", "a 1\n", "a 02\n", "a 00\n",
                     "a -2\n", "a +2\n", "a 2 \n", " a 2\n", "a  2\n", "a\t2\n", "a 2b\n", "a 2 3\n", "A 2\n", "a1 2\n",
                     "abcdefghi 2\n", "a 2\na 2\n", "a 2\na 3\n", "b 2\na 2\n", "a 2\nb 1\n", "a 2\nb\n", "a 2,b 2\n",
                     "a 2.0\n", "a 2_0\n", "a 1e3\n", "a 0x2\n", "a two\n", "a 2\nb 3", "a2\n"):
            self.refuses(read_weights, text)

    def test_weights_of_many_figures(self):
        self.assertEqual(Weights({"a": GREATEST}), read_weights(f"a {GREATEST}\n"))
        self.assertEqual(Weights({"a": GREATEST - 1}), read_weights(f"a {GREATEST - 1}\n"))
        self.assertEqual(31, len(str(GREATEST)))
        for digits in (str(GREATEST + 1), "9" * 31, "1" + "0" * 31, "9" * 40, "1" * 41, "1" * 4500, "0" * 4500 + "2",
                       "0" + str(GREATEST), "9" * 19990):
            self.refuses(read_weights, f"a {digits}\n")
            self.refuses(read_weights, f"a 2\nb {digits}\nc 3\n")

    def test_forty_eight_lines_and_forty_nine(self):
        questions, rows = all_questions("abcde")[:49], all_indexes("abcd")[:49]
        text = "".join(show_question(question) + "\n" for question in questions[:48])
        self.assertEqual(Asked(questions[:48]), read_asked(text))
        self.refuses(read_asked, text + show_question(questions[48]) + "\n")
        text = "".join(show_index(index) + "\n" for index in rows[:48])
        self.assertEqual(Shelf(rows[:48]), read_shelf(text))
        self.refuses(read_shelf, text + show_index(rows[48]) + "\n")
        self.refuses(read_shelf, "a\n" * 49)
        self.assertEqual(Shelf([("a",)] * 48), read_shelf("a\n" * 48))
        letters = "abcdefghijklmnopqrstuvwxyz"
        table = {one + other: 7 for one in letters for other in letters}
        self.assertEqual(Weights(table), read_weights(show_weights(Weights(table))))

    def test_long_texts(self):
        for read in READERS:
            for text in ("a" * 20000, " " * 20000, ">" * 20000, "a " * 10000, "a, " * 6666, "a\n" * 10000, "\n" * 20000,
                         "a 2\n" * 5000, "> a\n" * 5000, "2" * 20000, "~" * 20000):
                self.refuses(read, text)
        letters = "abcdefghijklmnopqrstuvwxyz"
        many = [one + other + last for one in letters for other in letters for last in letters][:4900]
        self.assertEqual((tuple(many), ""), read_question(" ".join(many)))
        self.assertEqual(tuple(many[:3900]), read_index(", ".join(many[:3900])))
        self.refuses(read_question, " ".join(many[::-1]))
        self.refuses(read_index, ", ".join([*many[:3900], many[0]]))

    def test_any_value_may_be_no_text(self):
        for read in READERS:
            for thing in odd_values():
                if not isinstance(thing, str):
                    self.refuses(read, thing)
            for thing in (["a"], ("a",), b"a\n", b"", {"a": 2}, asking("a"), ("a", "b"), Asked([]), Shelf([]), Weights({}),
                          0, 1, True, None, Same(), ["a\n"], ("a\n",)):
                self.refuses(read, thing)

    def test_signs_that_are_no_letters_or_figures_of_ascii(self):
        for sign in ("\u00e9", "\u0430", "\uff41", "\u00aa"):
            for read, text in ((read_question, sign), (read_question, f"> {sign}"), (read_index, f"a, {sign}"),
                               (read_asked, f"{sign}\n"), (read_shelf, f"{sign}\n"), (read_weights, f"{sign} 2\n")):
                self.refuses(read, text)
        for sign in ("\u0663", "\u00b2", "\uff12"):
            self.refuses(read_weights, f"a {sign}\n")
        for gap in ("\u00a0", "\u2028", "\x0b", "\x0c", "\x1c", "\x85", "\r"):
            self.refuses(read_question, f"a{gap}b")
            self.refuses(read_asked, f"a{gap}b\n")
            self.refuses(read_asked, f"a\n{gap}")

    def test_what_was_read_is_new(self):
        one, other = read_weights("a 2\n"), read_weights("a 2\n")
        one["a"] = 3
        self.assertEqual(Weights({"a": 2}), other)
        read_shelf("a\n").indexes().clear()
        self.assertEqual([("a",)], read_shelf("a\n").indexes())


if __name__ == "__main__":
    unittest.main()
