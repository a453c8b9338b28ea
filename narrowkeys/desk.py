"""A desk: what is written to it in lines, it does and answers in texts."""

from narrowkeys.advisor import Advisor
from narrowkeys.asked import Asked
from narrowkeys.compared import needless
from narrowkeys.deeds import read_deed, show_deed
from narrowkeys.errors import Full, NoCommand, NoText, Nothing, Refused, Unserved
from narrowkeys.fewest import fewest
from narrowkeys.levels import least_cost, levels
from narrowkeys.longer import least_added
from narrowkeys.narrow import cost
from narrowkeys.notation import show_asked, show_shelf, show_weights
from narrowkeys.readers import read_question
from narrowkeys.serving import droppable, place_of
from narrowkeys.shelves import Shelf
from narrowkeys.standing import least_more


def show_numbers(numbers):
    """The text of a list of numbers or of texts."""
    if len(numbers) == 0:
        return "-"
    return " ".join([str(number) for number in numbers])


def go_back(advisor):
    try:
        return show_deed(advisor.back())
    except Nothing:
        return "nothing"


def go_again(advisor):
    try:
        return show_deed(advisor.again())
    except Nothing:
        return "nothing"


def tell_asked(advisor):
    return show_asked(advisor.asked)


def tell_shelf(advisor):
    return show_shelf(advisor.shelf)


def tell_weights(advisor):
    return show_weights(advisor.weights())


def tell_unserved(advisor):
    return show_asked(advisor.unserved())


def tell_fewest(advisor):
    return str(fewest(advisor.asked))


def tell_least(advisor):
    return str(least_cost(advisor.asked, weights=advisor.weights()))


def tell_cost(advisor):
    return str(cost(advisor.shelf, weights=advisor.weights()))


def tell_more(advisor):
    many, paid = least_more(advisor.asked, advisor.shelf, weights=advisor.weights())
    return f"{many} {paid}"


def tell_longer(advisor):
    return str(least_added(advisor.asked, advisor.shelf, weights=advisor.weights()))


def tell_levels(advisor):
    rows = levels(advisor.asked, weights=advisor.weights())
    return show_numbers([f"{level}:{many}" for level, many in rows])


def tell_needless(advisor):
    return show_numbers(needless(advisor.shelf))


def tell_droppable(advisor):
    return show_numbers(droppable(advisor.shelf, advisor.asked))


# The lines of one word, and what answers them.
ANSWERS = {
    "back": go_back, "again": go_again, "asked": tell_asked, "shelf": tell_shelf, "weights": tell_weights,
    "unserved": tell_unserved, "fewest": tell_fewest, "least": tell_least, "cost": tell_cost, "more": tell_more,
    "longer": tell_longer, "levels": tell_levels, "needless": tell_needless, "droppable": tell_droppable,
}


def tell_place(advisor, question):
    try:
        return str(place_of(advisor.shelf, question))
    except Unserved:
        return "no"


def do_deed(advisor, deed):
    try:
        advisor.do(deed)
    except (Full, Refused):
        return "refused"
    return "ok"


def answer_longer_line(advisor, line):
    """Answers a line of several words."""
    word, _, rest = line.partition(" ")
    if word == "serves":
        return tell_place(advisor, read_question(rest))
    return do_deed(advisor, read_deed(line))


class Desk:
    """Keeps an Advisor, at first of no questions and no indexes."""

    def __init__(self):
        self._advisor = Advisor(Asked([]), Shelf([]))

    def execute(self, line):
        if not isinstance(line, str):
            raise NoCommand()
        if line in ANSWERS:
            answer = ANSWERS[line]
            return answer(self._advisor)
        try:
            return answer_longer_line(self._advisor, line)
        except NoText:
            raise NoCommand() from None
