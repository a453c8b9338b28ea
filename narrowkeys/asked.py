"""Lists of questions that are asked: each once, in ascending order."""

from narrowkeys.errors import NoQuestion, TooMany, Wrong
from narrowkeys.questions import columns_of, renamed_question
from narrowkeys.words import LIMIT, are_questions, is_question


class Asked:
    """At most 48 different questions. It never changes."""

    def __init__(self, questions):
        if not are_questions(questions):
            raise Wrong(0)
        different = sorted(set(questions))
        if len(different) > LIMIT:
            raise TooMany(LIMIT)
        self._questions = different

    def __eq__(self, other):
        return isinstance(other, Asked) and self._questions == other._questions

    def __or__(self, other):
        return Asked([*self._questions, *other._questions])

    def __and__(self, other):
        return Asked([question for question in self._questions if question in other._questions])

    def __sub__(self, other):
        return Asked([question for question in self._questions if question not in other._questions])

    def __len__(self):
        return len(self._questions)

    def __contains__(self, x):
        return is_question(x) and x in self._questions

    def __iter__(self):
        return iter(self._questions)

    def questions(self):
        return list(self._questions)

    def columns(self):
        return sorted({column for question in self._questions for column in columns_of(question)})

    def within(self, other):
        return all([question in other for question in self._questions])

    def with_question(self, question):
        return Asked([*self._questions, question])

    def without(self, question):
        if question not in self:
            raise NoQuestion(question)
        return Asked([one for one in self._questions if one != question])

    def renamed(self, names):
        return Asked([renamed_question(question, names) for question in self._questions])
