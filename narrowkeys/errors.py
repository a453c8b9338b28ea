"""The error classes of the package: each keeps the very objects that it is given."""


class KeysError(ValueError):
    """Stands above all other errors of the package."""


class Wrong(KeysError):
    """The argument at a place is not as described."""

    def __init__(self, place):
        self.place = place


class Apart(KeysError):
    """No index serves all of some questions: two of them cannot share."""

    def __init__(self, pair):
        self.pair = pair


class TooMany(KeysError):
    """There would be more things than the limit lets."""

    def __init__(self, limit):
        self.limit = limit


class NoQuestion(KeysError):
    """The question is not among those there are."""

    def __init__(self, question):
        self.question = question


class NoNumber(KeysError):
    """Nothing there has this number."""

    def __init__(self, number):
        self.number = number


class Unserved(KeysError):
    """No index of a shelf serves the question."""

    def __init__(self, question):
        self.question = question


class NoOrder(KeysError):
    """Some pairs make no order of things with weights."""

    def __init__(self, pair):
        self.pair = pair


class Unfit(KeysError):
    """A value does not fit where it is put."""


class NoColumn(KeysError):
    """A value is no column."""

    def __init__(self, column):
        self.column = column


class NoText(KeysError):
    """A value is not the text of what is read."""


class NoDeed(KeysError):
    """A value is no deed."""


class Full(KeysError):
    """As many deeds stand as the limit lets."""

    def __init__(self, limit):
        self.limit = limit


class Refused(KeysError):
    """A deed cannot be done as things are."""

    def __init__(self, deed):
        self.deed = deed


class Nothing(KeysError):
    """There is nothing to undo, or to do again."""


class NoEntry(KeysError):
    """There was no state behind so many deeds."""

    def __init__(self, many):
        self.many = many


class NoCommand(KeysError):
    """A value is no line that can be executed."""
