import random
import unittest

from narrowkeys.advisor import Advisor
from narrowkeys.asked import Asked
from narrowkeys.compared import needless
from narrowkeys.desk import Desk
from narrowkeys.errors import Full, KeysError, NoCommand, Nothing, Refused, Unserved
from narrowkeys.fewest import fewest
from narrowkeys.levels import least_cost, levels
from narrowkeys.longer import least_added
from narrowkeys.narrow import cost
from narrowkeys.notation import show_asked, show_index, show_question, show_shelf, show_weights
from narrowkeys.questions import asking
from narrowkeys.readers import read_question
from narrowkeys.serving import droppable, place_of
from narrowkeys.shelves import Shelf
from narrowkeys.standing import least_more
from odd import Same, all_indexes, all_questions, odd_values
from test_advisor import some_deed

GREATEST = 10 ** 30
TELLING = ("asked", "shelf", "weights", "unserved", "fewest", "least", "cost", "more", "longer", "levels", "needless",
           "droppable")


def line_of(deed):
    """The line that does a deed, by the words of the document."""
    word, *rest = deed
    if word in ("ask", "forget"):
        return f"{word} {show_question(rest[0])}"
    if word == "build":
        return f"build {show_index(rest[0])}"
    return " ".join([word, *map(str, rest)])


def listed(things):
    return " ".join(map(str, things)) or "-"


def answers(advisor):
    """What a desk tells of an Advisor, reckoned by the functions of the package."""
    asked, shelf, told = advisor.asked, advisor.shelf, {"weights": advisor.weights()}
    return {
        "asked": show_asked(asked), "shelf": show_shelf(shelf), "weights": show_weights(advisor.weights()),
        "unserved": show_asked(advisor.unserved()), "fewest": str(fewest(asked)), "least": str(least_cost(asked, **told)),
        "cost": str(cost(shelf, **told)), "more": listed(least_more(asked, shelf, **told)),
        "longer": str(least_added(asked, shelf, **told)),
        "levels": listed([f"{level}:{many}" for level, many in levels(asked, **told)]),
        "needless": listed(needless(shelf)), "droppable": listed(droppable(shelf, asked)),
    }


class DeskTest(unittest.TestCase):
    def setUp(self):
        self.desk = Desk()

    def run_lines(self, *lines):
        return [self.desk.execute(line) for line in lines]

    def told(self):
        return {word: self.desk.execute(word) for word in TELLING}

    def refuses(self, line):
        with self.assertRaises(NoCommand) as caught:
            self.desk.execute(line)
        self.assertIsInstance(caught.exception, KeysError)
        self.assertEqual({}, vars(caught.exception))

    def test_the_printed_answers(self):
        lines = ("ask city > born", "ask city name", "build city, born", "fewest", "levels", "unserved", "more")
        self.assertEqual(["ok", "ok", "ok", "2", "2:2", "city name\n", "1 2"], self.run_lines(*lines))

    def test_a_new_desk(self):
        self.assertEqual({"asked": "", "shelf": "", "weights": "", "unserved": "", "fewest": "0", "least": "0", "cost": "0",
                          "more": "0 0", "longer": "0", "levels": "-", "needless": "-", "droppable": "-"}, self.told())
        self.assertEqual(["nothing", "nothing", "no"], self.run_lines("back", "again", "serves a"))

    def test_each_deed(self):
        lines = ("ask city > born", "ask > city", "ask name city", "ask city name", "forget > city", "build city",
                 "build name, city", "lengthen 0 born", "weigh city 5", "weigh born 1", "drop 0", "forget city > born")
        said = []
        for line in lines:
            try:
                said.append(self.desk.execute(line))
            except NoCommand:
                said.append(None)
        self.assertEqual(["ok", "ok", None, *["ok"] * 9], said)
        self.assertEqual(["city name\n", "name, city\n", "city 5\n", ""],
                         self.run_lines("asked", "shelf", "weights", "unserved"))
        done = [line for line, one in zip(lines, said) if one]
        for line in done[::-1]:
            self.assertEqual(line, self.desk.execute("back"))
        self.assertEqual(["nothing", "", "", ""], self.run_lines("back", "asked", "shelf", "weights"))
        for line in done:
            self.assertEqual(line, self.desk.execute("again"))
        self.assertEqual(["nothing", "city name\n", "name, city\n", "city 5\n"],
                         self.run_lines("again", "asked", "shelf", "weights"))

    def test_answers_by_the_weights_now(self):
        self.run_lines("ask a", "ask b", "ask a b", "build a, c", "build c")
        self.assertEqual({"asked": "a\na b\nb\n", "shelf": "a, c\nc\n", "weights": "", "unserved": "a b\nb\n", "fewest": "2",
                          "least": "3", "cost": "3", "more": "1 2", "longer": "2", "levels": "1:2 2:1", "needless": "-",
                          "droppable": "1"}, self.told())
        self.run_lines("weigh a 3", f"weigh c {GREATEST}")
        self.assertEqual({"asked": "a\na b\nb\n", "shelf": "a, c\nc\n", "weights": f"a 3\nc {GREATEST}\n",
                          "unserved": "a b\nb\n", "fewest": "2", "least": "5", "cost": str(2 * GREATEST + 3), "more": "1 4",
                          "longer": "4", "levels": "1:2 3:1 4:1", "needless": "-", "droppable": "1"}, self.told())
        self.run_lines("back", "weigh a 1", "build a", "build a, c")
        self.assertEqual([{"needless": "0 2 3", "droppable": "0 1 2 3", "weights": "", "cost": "6"}],
                         [{word: self.desk.execute(word) for word in ("needless", "droppable", "weights", "cost")}])

    def test_serves(self):
        self.run_lines("build a, b, c", "build b", "build b, a")
        self.assertEqual(["0", "0", "1", "1", "2", "0", "0", "no", "no", "no", "0"],
                         self.run_lines("serves a", "serves > a", "serves b", "serves > b", "serves b > a", "serves a > b",
                                        "serves a b > c", "serves c", "serves a c", "serves b > c", "serves a b"))

    def test_refused(self):
        self.run_lines("ask a", "build a, b")
        before = self.told()
        for line in ("ask a", "forget b", "forget > a", "drop 1", f"drop {'9' * 40}", "lengthen 0 a", "lengthen 0 b",
                     "lengthen 1 c", f"lengthen {'1' * 40} c"):
            self.assertEqual("refused", self.desk.execute(line))
            self.assertEqual(before, self.told())
        self.assertEqual(["build a, b", "ask a", "ask a", "build a, b"], self.run_lines("back", "back", "again", "again"))
        self.assertEqual(["refused", "refused"], [Desk().execute(line) for line in ("drop 0", "lengthen 0 a")])

    def test_two_hundred_deeds_and_one_more(self):
        for at in range(200):
            self.assertEqual("ok", self.desk.execute(f"weigh a {at + 1}"))
        self.assertEqual(["refused"] * 3, self.run_lines("weigh a 1", "ask a", "drop 0"))
        self.refuses("weigh a 0")
        self.assertEqual(["a 200\n", "weigh a 200", "a 199\n", "refused", "ok", "refused"],
                         self.run_lines("weights", "back", "weights", "drop 0", "ask a", "weigh a 1"))

    def test_forty_eight_of_each_and_the_forty_ninth(self):
        questions, rows = all_questions("abcde")[:49], all_indexes("abcd")[:49]
        for question, index in zip(questions[:48], rows):
            self.assertEqual(["ok", "ok"], self.run_lines(f"ask {show_question(question)}", f"build {show_index(index)}"))
        self.assertEqual(["refused", "refused", "refused"],
                         self.run_lines(f"ask {show_question(questions[48])}", f"build {show_index(rows[48])}", "build a"))
        asked, shelf = Asked(questions[:48]), Shelf(rows[:48])
        self.assertEqual([show_asked(asked), show_shelf(shelf), show_asked(Advisor(asked, shelf).unserved())],
                         self.run_lines("asked", "shelf", "unserved"))
        self.assertEqual(["ok", "ok"], self.run_lines("drop 47", f"forget {show_question(questions[0])}"))
        self.assertEqual(["ok", "ok"], self.run_lines(f"ask {show_question(questions[48])}", f"build {show_index(rows[48])}"))

    def test_columns_that_are_called_like_words_of_the_desk(self):
        lines = ("ask ask back > more", "ask again", "ask drop forget", "build ask, back, more", "build build",
                 "lengthen 1 weigh", "weigh weigh 5", "weigh ask 7", "lengthen 0 serves", "forget again", "drop 1")
        self.assertEqual(["ok"] * 11, self.run_lines(*lines))
        self.assertEqual(["ask back > more\ndrop forget\n", "ask, back, more, serves\n", "ask 7\nweigh 5\n", "drop forget\n",
                          "0", "no", "0"],
                         self.run_lines("asked", "shelf", "weights", "unserved", "serves ask back > more",
                                        "serves serves", "serves > ask"))
        for line in lines[::-1]:
            self.assertEqual(line, self.desk.execute("back"))

    def test_wrong_lines(self):
        self.run_lines("ask a", "build a, b", "weigh a 3", "drop 0", "back")
        before = self.told()
        wrong = [
            "", " ", "\n", "ask", "ask ", "forget", "forget ", "build", "build ", "drop", "drop ", "lengthen", "lengthen ",
            "lengthen 0", "lengthen 0 ", "weigh", "weigh ", "weigh a", "weigh a ", "serves", "serves ", "Ask a", "ASK a",
            "ask a\n", "asked\n", "\nasked", " asked", "asked ", "asked a", "back 1", "back ", " back", "again again", "backs",
            "ask  a", " ask a", "ask a ", "ask b a", "ask a a", "ask a > a", "ask a >", "ask >", "ask >a", "ask a> b", "ask A",
            "ask a, b", "ask a1", "ask abcdefghi", "ask\ta", "forget a  b", "build a b", "build a,b", "build a,  b", "build a, a",
            "build a, b,", "build , a", "build > a", "build a, B", "drop a", "drop -1", "drop +1", "drop 00", "drop 01", "drop 1 ",
            "drop  1", "drop 1 2", "drop 1.0", "drop 1_0", f"drop {'1' * 41}", f"drop {'0' * 40}", "drop one", "drop 0\n",
            "lengthen a 0", "lengthen 0 a b", "lengthen 0  a", "lengthen 0 A", "lengthen -1 a", "lengthen 00 a", "lengthen 0 ab1",
            "lengthen 01 c", f"lengthen {'1' * 41} c", "lengthen 0 abcdefghi", "lengthen 0 c ", "lengthen 0, c", "lengthen c",
            "weigh a 0", "weigh a 01", "weigh a -1", "weigh a +1", f"weigh a {GREATEST + 1}", f"weigh a {'9' * 40}",
            f"weigh a {'9' * 41}", f"weigh a {'1' * 4500}", "weigh 1 a", "weigh a 1 ", "weigh a  1", "weigh a 1 2", "weigh A 1",
            "weigh a one", "weigh a, 1", "weigh abcdefghi 1", "weigh a 1\n", "serves b a", "serves a > a", "serves a, b",
            "serves  a", "serves A", "serve a", "more 1", "least cost", "advice", "deeds", "copied", "past 1", "trial", "MOST",
            "Back", "cost.", "level", "need less", "droppable 0", "fewest fewest", "ask a; back", "ask a\nback", "a", "a 2", "> a",
            "city name", "ok", "refused", "nothing", "-", "0", "ask > ", "ask > a b", "a" * 20000, "ask " * 5000, " " * 20000,
        ]
        for line in wrong:
            self.refuses(line)
        self.assertEqual(before, self.told())
        self.assertEqual(["drop 0", "nothing"], self.run_lines("again", "again"))

    def test_any_value_may_be_no_line(self):
        self.run_lines("ask a", "build a, b")
        before = self.told()
        for thing in [*odd_values(), ("ask", asking("b")), ["asked"], ("asked",), b"asked", {"asked": 1}, asking("a"), ("a",),
                      Same(), ("back",), 0, None, self.desk]:
            self.refuses(thing)
        self.assertEqual(before, self.told())

    def test_lines_with_one_sign_otherwise(self):
        lines = ["ask city > born", "forget city > born", "build a, b", "drop 10", "lengthen 0 c", "weigh a 12", "serves a b > c",
                 *TELLING, "back", "again"]
        for line in lines:
            for at in range(len(line) + 1):
                for sign in ("", " ", ",", ">", "0", "1", "A", "\n", "-"):
                    for other in (line[:at] + sign + line[at:], line[:at] + sign + line[at + 1:]):
                        self.check_line(other)

    def check_line(self, line):
        """A line that is executed is known, by the words of the document; any other one is refused."""
        word, _, rest = line.partition(" ")
        known = line in (*TELLING, "back", "again")
        if word in ("ask", "forget", "serves"):
            columns = rest.replace("> ", "").split(" ")
            shown = {show_question(one) for one in all_questions([one for one in columns if one.isalpha()][:3])}
            known = rest in shown and rest.islower() and all(len(column) < 9 for column in columns)
        elif word == "build":
            parts = rest.split(", ")
            known = len(set(parts)) == len(parts) and all(one.isalpha() and one.islower() for one in parts)
        elif word in ("drop", "lengthen", "weigh") and line.count(" ") == (1 if word == "drop" else 2):
            numbers = {"drop": rest, "lengthen": rest.split(" ")[0], "weigh": rest.split(" ")[-1]}[word]
            known = numbers.isdigit() and (numbers == "0" or numbers[0] != "0") and (word != "weigh" or numbers != "0")
            if word != "drop":
                column = rest.split(" ")[-1 if word == "lengthen" else 0]
                known = known and column.isalpha() and column.islower()
        if known:
            self.assertIs(type(self.desk.execute(line)), str)
            if word not in TELLING and word != "serves":
                self.desk.execute("back")
        else:
            self.refuses(line)

    def test_numbers_at_the_edges(self):
        self.run_lines("build a", "build b")
        self.assertEqual(["ok", "ok", "ok", "refused", "ok"],
                         self.run_lines("weigh a 1", f"weigh a {GREATEST}", "lengthen 1 c", "drop 10", "drop 1"))
        self.assertEqual([f"a {GREATEST}\n", "a\n", str(GREATEST)], self.run_lines("weights", "shelf", "cost"))

    def test_the_same_deeds_as_an_advisor(self):
        chance = random.Random(23)
        questions, indexes = all_questions("abc"), all_indexes("abc")
        for _ in range(12):
            desk, advisor = Desk(), Advisor(Asked([]), Shelf([]))
            for _ in range(50):
                step = chance.randrange(8)
                if step < 2:
                    try:
                        said = line_of(advisor.back() if step == 0 else advisor.again())
                    except Nothing:
                        said = "nothing"
                    self.assertEqual(said, desk.execute("back" if step == 0 else "again"))
                else:
                    deed = some_deed(chance, questions, indexes)
                    try:
                        advisor.do(deed)
                        said = "ok"
                    except (Refused, Full):
                        said = "refused"
                    self.assertEqual(said, desk.execute(line_of(deed)))
                if len(advisor.asked) + len(advisor.shelf) <= 48:
                    self.assertEqual(answers(advisor), {word: desk.execute(word) for word in TELLING})
                question = chance.choice(questions)
                try:
                    said = str(place_of(advisor.shelf, question))
                except Unserved:
                    said = "no"
                self.assertEqual(said, desk.execute(f"serves {show_question(question)}"))

    def test_two_desks_go_on_by_themselves(self):
        other = Desk()
        self.run_lines("ask a", "build b")
        self.assertEqual(["", "", "nothing"], [other.execute(line) for line in ("asked", "shelf", "back")])
        other.execute("weigh a 5")
        self.assertEqual(["a\n", "b\n", ""], self.run_lines("asked", "shelf", "weights"))

    def test_asking_changes_nothing(self):
        self.run_lines("ask a", "ask a > b", "build c", "weigh c 2", "back")
        before = self.told()
        for _ in range(2):
            self.assertEqual(before, self.told())
            self.assertEqual("no", self.desk.execute("serves a"))
        self.assertEqual(["weigh c 2", "nothing"], self.run_lines("again", "again"))

    def test_a_line_of_many_columns(self):
        letters = "abcdefghijklmnopqrstuvwxyz"
        many = [one + other + last for one in letters for other in letters for last in letters][:3900]
        lines = f"build {', '.join(many)}", f"ask {' '.join(many[:-1])} > {many[-1]}"
        self.assertEqual(["ok", "ok", "3900", "", "0"], self.run_lines(*lines, "cost", "unserved", f"serves {' '.join(many)}"))
        self.assertEqual([lines[1], lines[0]], self.run_lines("back", "back"))
        self.assertEqual(asking("a", last="b"), read_question("a > b"))


if __name__ == "__main__":
    unittest.main()
