import random
import unittest

from narrowkeys.advisor import Advisor
from narrowkeys.asked import Asked
from narrowkeys.errors import (
    Full, KeysError, NoDeed, NoEntry, NoNumber, Nothing, Refused, TooMany, Wrong,
)
from narrowkeys.fewest import fewest
from narrowkeys.questions import asking
from narrowkeys.serving import unserved
from narrowkeys.shelves import Shelf
from narrowkeys.standing import is_more, least_more
from narrowkeys.weights import Weights
from odd import Same, all_indexes, all_questions, deep, no_columns, no_indexes, no_questions, no_weights, odd_values

NEAR, LATE, BOTH, NAME = asking("city"), asking("city", last="born"), asking("name", "city"), asking("name")
ASKED = Asked([LATE, NEAR, BOTH, NAME])
SHELF = Shelf([("city", "born"), ("name",)])
EMPTY = Asked([]), Shelf([])
GREATEST = 10 ** 30
DEEDS = [("ask", asking("x")), ("build", ("x", "y")), ("weigh", "x", 7), ("lengthen", 0, "x"), ("drop", 1),
         ("forget", NEAR), ("weigh", "x", 1), ("lengthen", 1, "z")]


def replayed(asked, shelf, deeds):
    """What deeds, which can all be done, make of a set, a list and a dict."""
    questions, rows, table = set(asked), list(shelf), {}
    for word, *rest in deeds:
        if word == "ask":
            questions.add(rest[0])
        elif word == "forget":
            questions.remove(rest[0])
        elif word == "build":
            rows.append(rest[0])
        elif word == "drop":
            rows.pop(rest[0])
        elif word == "lengthen":
            rows[rest[0]] += (rest[1],)
        else:
            table[rest[0]] = rest[1]
    return Asked(list(questions)), Shelf(rows), Weights(table)


def is_refused(asked, shelf, deed):
    word, *rest = deed
    if word == "ask":
        return rest[0] in asked or len(asked) == 48
    if word == "forget":
        return rest[0] not in asked
    if word == "build":
        return len(shelf) == 48
    if word in ("drop", "lengthen"):
        return rest[0] >= len(shelf) or (word == "lengthen" and rest[1] in shelf[rest[0]])
    return False


def some_deed(chance, questions, indexes):
    word = chance.choice(["ask", "ask", "forget", "build", "drop", "lengthen", "weigh"])
    if word in ("ask", "forget"):
        return word, chance.choice(questions)
    if word == "build":
        return word, chance.choice(indexes)
    if word == "drop":
        return word, chance.randrange(5)
    if word == "lengthen":
        return word, chance.randrange(5), chance.choice("abcd")
    return word, chance.choice("abcd"), chance.choice([1, 1, 2, GREATEST])


class Failure(Exception):
    pass


class AdvisorTest(unittest.TestCase):
    def setUp(self):
        self.advisor = Advisor(ASKED, SHELF)

    def raises(self, error, act, *arguments):
        with self.assertRaises(error) as caught:
            act(*arguments)
        return caught.exception

    def state(self, advisor):
        """All that can be told of an Advisor, what can be done again too."""
        copy, undone = advisor.copied(), []
        while True:
            try:
                undone.append(copy.again())
            except Nothing:
                break
        return [advisor.asked, advisor.shelf, advisor.weights(), advisor.deeds(), undone, len(advisor)]

    def check(self, advisor, made, deeds):
        asked, shelf, weights = replayed(*made, deeds)
        self.assertEqual([asked, shelf, weights, deeds, len(deeds)],
                         [advisor.asked, advisor.shelf, advisor.weights(), advisor.deeds(), len(advisor)])
        self.assertEqual(unserved(shelf, asked), advisor.unserved())

    def check_advice(self, advisor):
        advice = advisor.advice()
        self.assertIs(type(advice), list)
        self.assertEqual({("build", tuple)}, {(word, type(index)) for word, index in advice} | {("build", tuple)})
        further = Shelf([index for _, index in advice])
        weights = advisor.weights()
        self.assertIs(is_more(advisor.asked, advisor.shelf, further, weights=weights), True)
        self.assertEqual(least_more(advisor.asked, advisor.shelf, weights=weights),
                         (len(further), sum(weights(index) for index in further)))
        copy = advisor.copied()
        for deed in advice:
            copy.do(deed)
        self.assertEqual([Asked([]), []], [copy.unserved(), copy.advice()])

    def test_the_printed_answers(self):
        self.assertIsNone(self.advisor.do(("lengthen", 1, "city")))
        self.assertEqual([0, [], ("lengthen", 1, "city"), 0],
                         [len(self.advisor.unserved()), self.advisor.advice(), self.advisor.back(), len(self.advisor)])

    def test_a_new_one(self):
        self.check(self.advisor, (ASKED, SHELF), [])
        self.check(Advisor(*EMPTY), EMPTY, [])
        self.assertEqual([{}, [], 0], [self.advisor.weights().table(), self.advisor.deeds(), len(self.advisor)])
        self.assertEqual([200, 200], [Advisor.MOST, self.advisor.MOST])
        self.check_advice(self.advisor)
        self.check_advice(Advisor(*EMPTY))

    def test_wrong_arguments(self):
        for thing in [*odd_values(), ASKED.questions(), Weights({}), self.advisor]:
            if not isinstance(thing, Asked):
                self.assertEqual(0, self.raises(Wrong, Advisor, thing, SHELF).place)
                self.assertEqual(0, self.raises(Wrong, Advisor, thing, thing).place)
            if not isinstance(thing, Shelf):
                self.assertEqual(1, self.raises(Wrong, Advisor, ASKED, thing).place)
        self.assertEqual(0, self.raises(Wrong, Advisor, SHELF, ASKED).place)
        self.assertEqual(1, self.raises(Wrong, Advisor, ASKED, ASKED).place)

    def test_each_deed(self):
        done = []
        for deed in DEEDS:
            self.assertIsNone(self.advisor.do(deed))
            done.append(deed)
            self.check(self.advisor, (ASKED, SHELF), done)
        self.assertEqual([("city", "born", "x"), ("x", "y", "z")], list(self.advisor.shelf))
        self.assertEqual([Asked([LATE, NEAR, BOTH, NAME]), Shelf([("city", "born"), ("name",)])], [ASKED, SHELF])

    def test_deeds_like_those_that_are_refused(self):
        # An index may stand several times, and a weight may be the one that the column has.
        for deed in (("build", ("name",)), ("build", ("name",)), ("weigh", "q", 1), ("weigh", "q", 5), ("weigh", "q", 5),
                     ("drop", 3), ("drop", 0), ("lengthen", 1, "city"), ("weigh", "q", GREATEST)):
            self.advisor.do(deed)
        self.assertEqual([("name",), ("name", "city")], list(self.advisor.shelf))
        self.assertEqual([{"q": GREATEST}, 9], [self.advisor.weights().table(), len(self.advisor)])

    def test_refused(self):
        self.advisor.do(("weigh", "a", 2))
        self.advisor.back()
        before = self.state(self.advisor)
        for deed in (("ask", NEAR), ("ask", BOTH), ("forget", asking("x")), ("forget", asking("city", last="x")),
                     ("drop", 2), ("drop", 10 ** 39), ("lengthen", 2, "x"), ("lengthen", 48, "city"), ("lengthen", 0, "city"),
                     ("lengthen", 0, "born"), ("lengthen", 1, "name"), ("lengthen", 10 ** 40 - 1, "x")):
            self.assertIs(deed, self.raises(Refused, self.advisor.do, deed).deed)
            self.assertEqual(before, self.state(self.advisor))
        for deed in (("drop", 0), ("lengthen", 0, "x"), ("forget", asking("a"))):
            self.raises(Refused, Advisor(*EMPTY).do, deed)
        self.assertEqual(("weigh", "a", 2), self.advisor.again())

    def test_no_deed(self):
        self.advisor.do(("weigh", "a", 2))
        self.advisor.back()
        before = self.state(self.advisor)
        wrong = [*odd_values(), "ask", "back", ("ask",), ("back",), ("drop",), ("ask", NEAR, NEAR), ("ask", NEAR, "x"),
                 ["ask", asking("x")], ("Ask", asking("x")), ("ask ", asking("x")), ("", asking("x")), (asking("x"), "ask"),
                 ("drop", 0, 0), ("drop", "0"), ("drop", (0,)), ("drop", [0]), ("weigh", "a"), ("weigh", 2, "a"),
                 ("lengthen", 0), ("lengthen", "x", 0), ("lengthen", 0, "x", "y"), ("lengthen", 0, ("x",)),
                 ("build",), ("build", ("x",), ("y",)), ("build", "x"), ("build", ["x"]), ("build", 0), ("ask", "x"),
                 ("ask", ("x",)), ("ask", "x", ""), ("ask", ("x",), ""), ("weigh", "a", 2, 3), ("weigh", ("a",), 2),
                 [("ask", asking("x"))], (("ask", asking("x")),), {"ask": asking("x")}, ("read", "x"), ("build", ()),
                 ("ask", "a", 2), ("count", "a", 2), ("Weigh", "a", 2), ("raise", 0, "x"), ("take", 0), ("take", ("x",)),
                 (b"ask", asking("x")), (Same(), asking("x")), (Same(), 0), (Same(), 0, "x"), (["ask"], asking("x")),
                 ({}, asking("x")), (None, asking("x")), (True, 0), (deep("ask", 36), asking("x"))]
        for deed in wrong:
            self.raises(NoDeed, self.advisor.do, deed)
        for thing in no_questions():
            self.raises(NoDeed, self.advisor.do, ("ask", thing))
            self.raises(NoDeed, self.advisor.do, ("forget", thing))
        for thing in no_indexes():
            self.raises(NoDeed, self.advisor.do, ("build", thing))
        for thing in no_columns():
            self.raises(NoDeed, self.advisor.do, ("lengthen", 0, thing))
            self.raises(NoDeed, self.advisor.do, ("weigh", thing, 2))
        for thing in no_weights(GREATEST):
            self.raises(NoDeed, self.advisor.do, ("weigh", "a", thing))
        for thing in [*odd_values(), "", "0", "a", ("a",), -1, -(10 ** 39)]:
            if isinstance(thing, bool) or not isinstance(thing, int) or thing < 0:
                self.raises(NoDeed, self.advisor.do, ("drop", thing))
                self.raises(NoDeed, self.advisor.do, ("lengthen", thing, "x"))
        self.assertEqual(before, self.state(self.advisor))

    def test_forty_eight_questions_and_the_forty_ninth(self):
        questions = all_questions("abcde")[:49]
        advisor = Advisor(Asked(questions[:47]), Shelf([]))
        advisor.do(("ask", questions[47]))
        deed = ("ask", questions[48])
        self.assertIs(deed, self.raises(Refused, advisor.do, deed).deed)
        self.assertEqual([Asked(questions[:48]), 1], [advisor.asked, len(advisor)])
        self.raises(Refused, advisor.do, ("ask", questions[0]))
        advisor.do(("forget", questions[0]))
        advisor.do(deed)
        self.assertEqual(Asked(questions[1:]), advisor.asked)
        self.assertEqual(48, self.raises(TooMany, Asked, questions).limit)

    def test_forty_eight_indexes_and_the_forty_ninth(self):
        rows = all_indexes("abcd")[:49]
        advisor = Advisor(Asked(all_questions("abcde")[:48]), Shelf(rows[:47]))
        advisor.do(("build", rows[0]))
        for deed in (("build", rows[48]), ("build", rows[0])):
            self.assertIs(deed, self.raises(Refused, advisor.do, deed).deed)
        self.assertEqual([Shelf([*rows[:47], rows[0]]), 1], [advisor.shelf, len(advisor)])
        # With forty-eight of both it still tells what is not served.
        self.assertEqual(unserved(advisor.shelf, advisor.asked), advisor.unserved())
        self.assertGreater(len(advisor.unserved()), 0)
        advisor.do(("drop", 47))
        advisor.do(("build", rows[48]))
        self.assertEqual(rows[48], advisor.shelf[47])

    def test_two_hundred_deeds_and_one_more(self):
        advisor, done = Advisor(*EMPTY), []
        for at in range(200):
            deed = [("build", ("a", "b")), ("weigh", "a", at + 1), ("lengthen", 0, "c"), ("drop", 0)][at % 4]
            advisor.do(deed)
            done.append(deed)
        self.check(advisor, EMPTY, done)
        for deed in (("build", ("a",)), ("weigh", "a", 9), ("drop", 0), ("ask", asking("a")), ("forget", asking("a"))):
            error = self.raises(Full, advisor.do, deed)
            self.assertEqual([200, {"limit": 200}], [error.limit, vars(error)])
        # What is no deed comes first of all, and what is refused behind that all stand.
        self.raises(NoDeed, advisor.do, ("drop", -1))
        self.check(advisor, EMPTY, done)
        for many in range(199, -1, -1):
            self.assertEqual(done[many], advisor.back())
            if many % 20 == 0:
                self.check(advisor, EMPTY, done[:many])
        self.raises(Nothing, advisor.back)
        for many in range(200):
            self.assertEqual(done[many], advisor.again())
        self.raises(Nothing, advisor.again)
        self.check(advisor, EMPTY, done)
        self.raises(Full, advisor.do, ("weigh", "a", 1))
        advisor.back()
        self.raises(Refused, advisor.do, ("drop", 5))
        advisor.do(("weigh", "a", 1))
        self.raises(Full, advisor.do, ("drop", 5))

    def test_back_and_again(self):
        self.raises(Nothing, self.advisor.back)
        self.raises(Nothing, self.advisor.again)
        for deed in DEEDS:
            self.advisor.do(deed)
        self.raises(Nothing, self.advisor.again)
        for many in range(len(DEEDS) - 1, 2, -1):
            self.assertEqual(DEEDS[many], self.advisor.back())
            self.check(self.advisor, (ASKED, SHELF), DEEDS[:many])
        self.assertEqual(DEEDS[3], self.advisor.again())
        self.assertEqual(DEEDS[4], self.advisor.again())
        self.check(self.advisor, (ASKED, SHELF), DEEDS[:5])
        self.assertEqual(DEEDS[4], self.advisor.back())
        # What is refused leaves it possible to do the others again; a deed that is done does not.
        self.raises(Refused, self.advisor.do, ("drop", 9))
        self.raises(NoDeed, self.advisor.do, "back")
        self.assertEqual(DEEDS[4], self.advisor.again())
        self.advisor.back()
        self.advisor.do(("weigh", "q", 3))
        self.raises(Nothing, self.advisor.again)
        self.check(self.advisor, (ASKED, SHELF), [*DEEDS[:4], ("weigh", "q", 3)])
        self.assertEqual(("weigh", "q", 3), self.advisor.back())
        self.assertEqual(DEEDS[3], self.advisor.back())

    def test_errors_without_fields(self):
        for error, act in ((Nothing, self.advisor.back), (Nothing, self.advisor.again), (NoDeed, lambda: self.advisor.do(0))):
            caught = self.raises(error, act)
            self.assertEqual({}, vars(caught))
            self.assertIsInstance(caught, KeysError)

    def test_past(self):
        for deed in DEEDS:
            self.advisor.do(deed)
        self.advisor.back()
        before = self.state(self.advisor)
        for many in range(len(DEEDS)):
            found = self.advisor.past(many)
            self.check(found, (ASKED, SHELF), DEEDS[:many])
            self.raises(Nothing, found.again)
            again = Advisor(ASKED, SHELF)
            for deed in DEEDS[:many]:
                again.do(deed)
            self.assertIs(found == again, True)
            for at in range(many - 1, -1, -1):
                self.assertEqual(DEEDS[at], found.back())
            self.raises(Nothing, found.back)
            found.do(("build", ("q",)))
            found.do(("weigh", "x", 99))
            self.assertEqual(before, self.state(self.advisor))
        for thing in [*odd_values(), "", "0", len(DEEDS), len(DEEDS) + 1, -1, 201, [0], (0,)]:
            self.assertIs(thing, self.raises(NoEntry, self.advisor.past, thing).many)
        self.assertEqual(before, self.state(self.advisor))
        for thing in (True, False):
            self.assertIs(thing, self.raises(NoEntry, Advisor(*EMPTY).past, thing).many)
        self.assertEqual(Advisor(*EMPTY), Advisor(*EMPTY).past(0))
        self.raises(NoEntry, Advisor(*EMPTY).past, 1)

    def test_the_past_of_a_past_one(self):
        for deed in DEEDS:
            self.advisor.do(deed)
        found = self.advisor.past(6).past(6).past(3)
        self.check(found, (ASKED, SHELF), DEEDS[:3])
        self.raises(NoEntry, found.past, 4)

    def test_copied(self):
        for deed in DEEDS:
            self.advisor.do(deed)
        for _ in range(3):
            self.advisor.back()
        before = self.state(self.advisor)
        copy = self.advisor.copied()
        self.assertIs(copy == self.advisor, True)
        self.assertEqual(before, self.state(copy))
        self.assertEqual(DEEDS[5], copy.again())
        copy.do(("weigh", "x", 5))
        copy.do(("forget", NAME))
        self.assertEqual(before, self.state(self.advisor))
        self.assertIs(copy == self.advisor, False)
        after = self.state(copy)
        self.assertEqual([DEEDS[5], DEEDS[6]], [self.advisor.again(), self.advisor.again()])
        while len(self.advisor) > 0:
            self.advisor.back()
        self.assertEqual(after, self.state(copy))

    def test_equal(self):
        other = Advisor(Asked(ASKED.questions()[::-1]), Shelf(SHELF.indexes()))
        self.assertIs(self.advisor == other, True)
        self.assertIs(self.advisor != other, False)
        self.advisor.do(("weigh", "a", 1))
        self.assertIs(self.advisor == other, False)
        self.assertIs(self.advisor != other, True)
        other.do(("weigh", "a", 1))
        other.do(("drop", 0))
        other.back()
        self.assertIs(self.advisor == other, True)
        # It counts with what they were made, and what was done, not what came of it.
        self.assertIs(Advisor(ASKED, SHELF) == Advisor(ASKED, Shelf(SHELF.indexes()[::-1])), False)
        self.assertIs(Advisor(ASKED, SHELF) == Advisor(Asked([NEAR]), SHELF), False)
        one, another = Advisor(Asked([]), SHELF), Advisor(Asked([NEAR]), SHELF)
        one.do(("ask", NEAR))
        self.assertEqual([one.asked, one.shelf, one.weights()], [another.asked, another.shelf, another.weights()])
        self.assertIs(one == another, False)
        first, second = Advisor(*EMPTY), Advisor(*EMPTY)
        for word, other_word in ((("weigh", "a", 2), ("weigh", "b", 2)), (("weigh", "b", 2), ("weigh", "a", 2))):
            first.do(word)
            second.do(other_word)
        self.assertEqual(first.weights(), second.weights())
        self.assertIs(first == second, False)

    def test_equal_to_nothing_else(self):
        for thing in [*odd_values(), ASKED, SHELF, (ASKED, SHELF), [], "", 0, None]:
            if not isinstance(thing, (Same, Advisor)):
                self.assertIs(self.advisor == thing, False)
                self.assertIs(thing == self.advisor, False)
                self.assertIs(self.advisor != thing, True)
        self.assertIs(self.advisor == Same(), False)

    def test_weights_that_are_told_go_on_by_themselves(self):
        self.advisor.do(("weigh", "city", 5))
        told = self.advisor.weights()
        told["city"] = 9
        told["born"] = 2
        self.assertEqual([{"city": 5}, {"born": 2, "city": 9}], [self.advisor.weights().table(), told.table()])
        self.advisor.do(("weigh", "name", 3))
        self.assertEqual([{"city": 5, "name": 3}, {"born": 2, "city": 9}], [self.advisor.weights().table(), told.table()])
        self.advisor.back()
        self.assertEqual({"city": 5}, self.advisor.weights().table())
        self.advisor.weights()["x"] = 4
        self.assertEqual({}, self.advisor.past(0).weights().table())

    def test_told_lists_are_new(self):
        self.advisor.do(("weigh", "city", 5))
        for told in (self.advisor.deeds(), self.advisor.advice()):
            told.append(None)
            told[0] = None
        self.assertEqual([[("weigh", "city", 5)], 1], [self.advisor.deeds(), len(self.advisor)])
        self.check_advice(self.advisor)
        questions, rows = ASKED.questions(), SHELF.indexes()
        advisor = Advisor(Asked(questions), Shelf(rows))
        questions.clear()
        rows.clear()
        self.check(advisor, (ASKED, SHELF), [])
        advisor.asked.questions().clear()
        self.check(advisor, (ASKED, SHELF), [])

    def test_asked_and_shelf_cannot_be_assigned(self):
        for name in ("asked", "shelf"):
            with self.assertRaises(AttributeError):
                setattr(self.advisor, name, None)

    def test_advice_goes_by_the_weights_now(self):
        advisor = Advisor(Asked([asking("a"), asking("b"), asking("a", "b")]), Shelf([]))
        advisor.do(("weigh", "a", 9))
        self.assertEqual(sorted([("build", ("a", "b")), ("build", ("b",))]), sorted(advisor.advice()))
        advisor.do(("weigh", "b", 20))
        self.assertEqual(sorted([("build", ("b", "a")), ("build", ("a",))]), sorted(advisor.advice()))
        advisor.back()
        self.check_advice(advisor)
        self.assertEqual(0, len(advisor.shelf))
        advisor.do(("build", ("a", "c")))
        self.assertEqual([("build", ("b", "a"))], advisor.advice())

    def test_many_deeds_by_chance(self):
        chance = random.Random(17)
        questions, indexes = all_questions("abc"), all_indexes("abc")
        for _ in range(25):
            made = Asked(chance.sample(questions, 3)), Shelf(chance.sample(indexes, 2))
            advisor, done, undone = Advisor(*made), [], []
            for _ in range(60):
                step = chance.randrange(8)
                if step == 0:
                    if done:
                        undone.append(done.pop())
                        self.assertEqual(undone[-1], advisor.back())
                    else:
                        self.raises(Nothing, advisor.back)
                elif step == 1:
                    if undone:
                        done.append(undone.pop())
                        self.assertEqual(done[-1], advisor.again())
                    else:
                        self.raises(Nothing, advisor.again)
                else:
                    deed = some_deed(chance, questions, indexes)
                    if is_refused(advisor.asked, advisor.shelf, deed):
                        self.assertIs(deed, self.raises(Refused, advisor.do, deed).deed)
                    else:
                        advisor.do(deed)
                        done.append(deed)
                        undone = []
                self.check(advisor, made, done)
            self.assertEqual(undone[::-1], self.state(advisor)[4])
            self.check_advice(advisor)
            many = chance.randrange(len(done) + 1)
            self.check(advisor.past(many), made, done[:many])

    def test_equal_ones_answer_the_same(self):
        one, other = Advisor(ASKED, SHELF), Advisor(ASKED, SHELF)
        for deed in DEEDS:
            one.do(deed)
            other.do(tuple(list(deed)))
            for _ in range(2):
                self.assertEqual([one.advice(), one.unserved(), one.deeds(), one.weights()],
                                 [other.advice(), other.unserved(), other.deeds(), other.weights()])
                self.assertEqual(one, other)

    def test_other_names_give_the_same_answers(self):
        names = {"city": "b", "born": "a", "name": "city"}
        one, other = Advisor(ASKED, SHELF), Advisor(ASKED.renamed(names), SHELF.renamed(names))
        self.assertEqual(len(one.advice()), len(other.advice()))
        self.assertEqual(one.unserved().renamed(names), other.unserved())
        self.assertEqual(fewest(one.asked), fewest(other.asked))


class TrialTest(unittest.TestCase):
    def setUp(self):
        self.advisor = Advisor(ASKED, SHELF)
        for deed in DEEDS:
            self.advisor.do(deed)
        for _ in range(3):
            self.advisor.back()

    state = AdvisorTest.state

    def check(self, act, error=None):
        """Tries act, and checks that nothing has changed; tells what came back."""
        before, found = self.state(self.advisor), None
        if error is None:
            found = self.advisor.trial(act)
        else:
            with self.assertRaises(error) as caught:
                self.advisor.trial(act)
            found = caught.exception
        self.assertEqual(before, self.state(self.advisor))
        copy = self.advisor.copied()
        self.assertEqual(DEEDS[5:], [copy.again() for _ in range(3)])
        while len(copy) > 0:
            self.assertEqual(DEEDS[len(copy) - 1], copy.back())
        self.assertEqual([ASKED, SHELF, Weights({})], [copy.asked, copy.shelf, copy.weights()])
        return found

    def test_what_is_done_in_it_is_gone(self):
        def act(advisor):
            self.assertIs(self.advisor, advisor)
            advisor.do(("build", ("q", "r")))
            advisor.do(("weigh", "q", 5))
            advisor.do(("ask", asking("q")))
            return [len(advisor), advisor.shelf[2], advisor.weights()["q"], asking("q") in advisor.asked]
        self.assertEqual([8, ("q", "r"), 5, True], self.check(act))

    def test_what_it_returns_is_the_very_object(self):
        for thing in odd_values():
            self.assertIs(thing, self.check(lambda advisor: thing))
        self.assertIs(self.advisor, self.check(lambda advisor: advisor))

    def test_back_and_again_in_it(self):
        def act(advisor):
            told = [advisor.back(), advisor.back(), advisor.again(), advisor.again(), advisor.again()]
            while len(advisor) > 0:
                advisor.back()
            return told
        self.assertEqual([DEEDS[4], DEEDS[3], DEEDS[3], DEEDS[4], DEEDS[5]], self.check(act))

        def other(advisor):
            advisor.do(("weigh", "q", 5))
            advisor.back()
            advisor.back()
            advisor.do(("weigh", "q", 6))
            advisor.again()
        self.check(other, Nothing)

    def test_errors_of_the_package_and_of_python(self):
        def refused(advisor):
            advisor.do(("drop", 0))
            advisor.do(("drop", 7))

        def no_deed(advisor):
            advisor.back()
            advisor.do(["drop", 0])

        def no_number(advisor):
            advisor.do(("drop", 0))
            return advisor.shelf[5]

        def failing(advisor):
            advisor.do(("forget", LATE))
            raise Failure("x")

        def wrong(advisor):
            advisor.back()
            return {}["x"]
        for act, error in ((refused, Refused), (no_deed, NoDeed), (no_number, NoNumber), (failing, Failure), (wrong, KeyError),
                           (lambda advisor: 1 // 0, ZeroDivisionError), (lambda: None, TypeError), (None, TypeError)):
            self.check(act, error)
        self.assertEqual(("drop", 7), self.check(refused, Refused).deed)

    def test_errors_that_end_a_program(self):
        for error in (KeyboardInterrupt, SystemExit, GeneratorExit):
            def act(advisor):
                advisor.do(("forget", LATE))
                raise error()
            self.check(act, error)

    def test_the_very_error_passes(self):
        raised = Failure("x")

        def act(advisor):
            advisor.back()
            raise raised
        self.assertIs(raised, self.check(act, Failure))

    def test_what_is_caught_in_it(self):
        def act(advisor):
            found = []
            for deed in (("drop", 9), "x", ("drop", 0), ("lengthen", 0, "x"), ("ask", NAME)):
                try:
                    advisor.do(deed)
                    found.append(None)
                except KeysError as error:
                    found.append(error.__class__)
            return found, len(advisor)
        self.assertEqual(([Refused, NoDeed, None, Refused, Refused], 6), self.check(act))

    def test_trials_within_trials(self):
        def inner(advisor):
            advisor.back()
            advisor.do(("weigh", "q", 5))
            return len(advisor), advisor.weights()["q"]

        def failing(advisor):
            advisor.back()
            advisor.back()
            raise Failure()

        def outer(advisor):
            advisor.do(("weigh", "q", 2))
            before = self.state(advisor)
            told = [advisor.trial(inner)]
            self.assertEqual(before, self.state(advisor))
            with self.assertRaises(Failure):
                advisor.trial(failing)
            self.assertEqual(before, self.state(advisor))
            advisor.back()
            told.append(advisor.again())
            told.append(advisor.trial(lambda same: same.trial(inner)))
            return told
        self.assertEqual([(6, 5), ("weigh", "q", 2), (6, 5)], self.check(outer))
        self.check(lambda advisor: advisor.trial(failing), Failure)

    def test_two_hundred_deeds_in_it(self):
        def act(advisor):
            while len(advisor) < 200:
                advisor.do(("weigh", "q", len(advisor)))
            advisor.do(("weigh", "q", 1))
        self.assertEqual(200, self.check(act, Full).limit)

    def test_copies_that_it_returns_go_on(self):
        def act(advisor):
            advisor.do(("weigh", "q", 5))
            return advisor.copied(), advisor.past(2), advisor.weights()
        copy, past, weights = self.check(act)
        self.assertEqual([6, 2, 5, {"q": 5, "x": 7}], [len(copy), len(past), copy.weights()["q"], weights.table()])
        copy.back()
        past.do(("weigh", "q", 8))
        weights["q"] = 9
        self.assertEqual([5, 3, 1], [len(copy), len(past), self.advisor.weights()["q"]])
        self.assertEqual(copy, self.advisor)

    def test_another_advisor_in_it(self):
        other = Advisor(ASKED, SHELF)

        def act(advisor):
            other.do(("drop", 0))
            advisor.do(("drop", 0))
            return other.trial(lambda same: same.do(("drop", 0)))
        self.assertIsNone(self.check(act))
        self.assertEqual([("name",)], list(other.shelf))

    def test_advice_in_it(self):
        def act(advisor):
            for deed in advisor.advice():
                advisor.do(deed)
            return len(advisor.unserved())
        self.assertGreater(len(self.advisor.unserved()), 0)
        self.assertEqual(0, self.check(act))


if __name__ == "__main__":
    unittest.main()
