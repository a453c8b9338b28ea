import itertools
import unittest

from narrowkeys.errors import Apart
from narrowkeys.indexes import first_fault, index_for, questions_of, serves
from narrowkeys.questions import asking, can_share, columns_of, is_below, split_pair, width
from odd import all_indexes, all_questions, all_share, fits

NEAR, LATE, BOTH = asking("city"), asking("city", last="born"), asking("name", "city")


def fault_by_words(index, question):
    """The least place of a fault, by the words of the document."""
    asked, last = question
    wanted = [*[set(asked)] * len(asked), *([{last}] if last else [])]
    for place, columns in enumerate(wanted):
        if place >= len(index) or index[place] not in columns:
            return place
    return None


class ServingTest(unittest.TestCase):
    def test_the_printed_answers(self):
        self.assertIs(serves(("name", "city"), BOTH), True)
        self.assertEqual(1, first_fault(("city", "name"), LATE))

    def test_serves_by_its_words(self):
        for index, question in itertools.product(all_indexes("abcd"), all_questions("abcd")):
            self.assertIs(serves(index, question), fits(index, question), (index, question))

    def test_first_fault_by_its_words(self):
        for index, question in itertools.product(all_indexes("abcd"), all_questions("abcd")):
            self.assertEqual(fault_by_words(index, question), first_fault(index, question), (index, question))

    def test_first_fault(self):
        deep = asking("a", "b", "c", last="d")
        self.assertIsNone(first_fault(("c", "a", "b", "d"), deep))
        self.assertIsNone(first_fault(("c", "a", "b", "d", "e"), deep))
        self.assertEqual(3, first_fault(("c", "a", "b", "e", "d"), deep))
        self.assertEqual(3, first_fault(("c", "a", "b"), deep))
        self.assertEqual(2, first_fault(("c", "a"), deep))
        self.assertEqual(2, first_fault(("c", "a", "d", "b"), deep))
        self.assertEqual(0, first_fault(("d", "a", "b", "c"), deep))
        self.assertEqual(0, first_fault(("b",), asking(last="a")))
        self.assertIsNone(first_fault(("a",), asking(last="a")))

    def test_an_index_of_twelve_columns(self):
        index = tuple("lkjihgfedcba")
        self.assertIs(serves(index, asking(*"lkjihgfedcb", last="a")), True)
        self.assertIs(serves(index, asking(*index)), True)
        self.assertEqual(10, first_fault(index, asking(*"lkjihgfedca", last="b")))
        self.assertEqual(11, first_fault(index[:11], asking(*"lkjihgfedcb", last="a")))


class QuestionsOfTest(unittest.TestCase):
    def test_the_printed_answer(self):
        expected = [((), "b"), (("a", "b"), ""), (("b",), ""), (("b",), "a")]
        self.assertEqual(expected, questions_of(("b", "a")))

    def test_one_column(self):
        self.assertEqual([((), "a"), (("a",), "")], questions_of(("a",)))

    def test_these_are_all_that_the_index_serves(self):
        everything = all_questions("abcd")
        for index in all_indexes("abcd"):
            self.assertEqual([one for one in everything if fits(index, one)], questions_of(index), index)

    def test_twelve_columns(self):
        index = tuple("lajkbihgfedc")
        found = questions_of(index)
        self.assertEqual([24, 24, sorted(found)], [len(found), len(set(found)), found])
        self.assertTrue(all(fits(index, question) for question in found))

    def test_the_list_is_new(self):
        told = questions_of(("a",))
        told.clear()
        self.assertEqual([((), "a"), (("a",), "")], questions_of(("a",)))


class IndexForTest(unittest.TestCase):
    def apart(self, questions):
        with self.assertRaises(Apart) as caught:
            index_for(questions)
        return caught.exception.pair

    def test_the_printed_answer(self):
        self.assertEqual(("city", "born"), index_for([LATE, NEAR]))

    def test_one_question(self):
        self.assertEqual(("a",), index_for([asking(last="a")]))
        self.assertEqual(("a", "b", "c"), index_for((asking("c", "b", "a"),)))
        self.assertEqual(("b", "c", "a"), index_for([asking("c", "b", last="a")]))

    def test_doubles_are_of_no_account(self):
        self.assertEqual(("city", "born"), index_for([LATE, NEAR, LATE, NEAR, NEAR]))
        self.assertEqual(("b", "a"), index_for((asking("b", last="a"),) * 60))

    def test_the_least_index_by_a_search(self):
        everything = all_questions("abc")
        indexes = sorted(all_indexes("abc"), key=lambda index: (len(index), index))
        for many in (1, 2, 3):
            for row in itertools.product(everything, repeat=many):
                found = [index for index in indexes if all(fits(index, question) for question in row)]
                if found:
                    self.assertEqual(found[0], index_for(list(row)), row)
                else:
                    self.assertEqual(split_pair(row), self.apart(row), row)

    def test_one_index_serves_just_those_of_which_each_two_can_share(self):
        everything, indexes = all_questions("abc"), all_indexes("abc")
        for row in itertools.combinations(everything, 3):
            found = any(all(fits(index, question) for question in row) for index in indexes)
            shared = all(can_share(one, other) for one, other in itertools.combinations(row, 2))
            self.assertEqual([shared, shared], [found, all_share(row)], row)

    def test_the_index_has_just_the_columns_of_the_greatest(self):
        for row in itertools.combinations(all_questions("abcd"), 2):
            if all_share(row):
                greatest = row[1] if is_below(row[0], row[1]) else row[0]
                self.assertEqual(columns_of(greatest), tuple(sorted(index_for(row))), row)

    def test_a_chain_of_twelve_columns(self):
        names = "lkjihgfedcba"
        chain = [asking(*names[:many], last=last) for many in range(11) for last in ("", names[many]) if many or last]
        chain.append(asking(*names))
        self.assertEqual(tuple(names), index_for(chain))
        self.assertEqual(tuple(names), index_for(chain[::-1]))
        self.assertEqual(tuple(sorted(names)), index_for(chain[-1:]))
        self.assertEqual(("l", "b", "c", "d", "e", "f", "g", "h", "i", "j", "k", "a"), index_for([chain[1], (
            tuple("bcdefghijkl"), "a")]))
        self.assertEqual(12, width(chain[-1]))

    def test_apart_keeps_the_least_pair(self):
        self.assertEqual((LATE, BOTH), self.apart([BOTH, LATE, NEAR]))
        self.assertEqual(((), "a"), self.apart([asking(last="b"), asking(last="c"), asking(last="a")])[0])

    def test_the_list_stays(self):
        questions = [LATE, NEAR, LATE]
        index_for(questions)
        self.assertEqual([LATE, NEAR, LATE], questions)
        questions.append(BOTH)
        self.apart(questions)
        self.assertEqual([LATE, NEAR, LATE, BOTH], questions)


if __name__ == "__main__":
    unittest.main()
