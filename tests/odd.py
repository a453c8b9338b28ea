"""Values of any kind for the tests of wrong inputs, and plain searches to compare answers with."""

import random
from itertools import combinations, permutations

import narrowkeys.errors as errors
from narrowkeys.advisor import Advisor
from narrowkeys.asked import Asked
from narrowkeys.desk import Desk
from narrowkeys.lots import Lot
from narrowkeys.shelves import Shelf
from narrowkeys.weights import Weights


class Same:
    """Says that it is equal to everything, and can be hashed."""

    def __eq__(self, other):
        return True

    def __hash__(self):
        return 0


def deep(thing, depth=38):
    """thing, inside as many lists and tuples."""
    for level in range(depth):
        thing = [thing] if level % 2 else (thing,)
    return thing


def odd_values():
    """Values that are no columns, no questions, no indexes and no integers from 0 to 48."""
    return [
        None, True, False, -1, 49, 10 ** 39, -(10 ** 39), b"", b"a", NotImplemented, Ellipsis,
        "A", "aB", "a1", "1", "a b", " ", "a\n", "\t", "a-b", "`", "{", "abcdefghi", "a" * 20000,
        [], ["a"], [[]], [("a",)], {}, {"a": 1}, {("a",): ""}, set(), {"a"}, frozenset(), frozenset(["a"]),
        (), ((),), ((), ""), ((), "A"), ((), None), ([], "a"), ((), "a", "b"), ((), ["a"]), (("a",), "a"),
        (("b", "a"), ""), (("a", "a"), ""), (["a"], ""), ("ab", ""), ("a", ""), (("a",),), [("a",), ""],
        (("a", 1), ""), (("a", None), "b"), (("a", []), "b"), (("a",), b"b"), (("a",), 0), (("a",), True),
        (("a",), False), (("a",), "abcdefghi"), (("A",), "b"), (("",), "b"), ((("a",),), "b"), ((("a",), ""),),
        ("a", "a"), ("a", ""), ("",), ("A",), ("a", 1), ("a", []), ("a", ["b"]), ("a", {}), (True,), (None,),
        object(), Same(), len, int, str, sorted, odd_values, lambda: 0, range(3), iter([]), Exception("a"),
        errors.KeysError(), errors.Wrong(0), errors.Wrong, Shelf([]), Shelf([("a",)]), Shelf, (Shelf([]),),
        Asked([]), Asked([((), "a")]), Asked, (Asked([]),), (Asked([]), ""), ((), Asked([])), [Asked([])],
        (Shelf([]), ""), ((), Shelf([])), ((Shelf([]),), "a"), (Same(), ""), ((), Same()), ((Same(),), "a"),
        Lot([], []), Lot([1], []), Lot, [Lot([1], [])], (Lot([1], []), ""), ([], Lot([], [])), [[Lot([1], [])]],
        Weights({}), Weights({"a": 2}), Weights, [Weights({})], ((), Weights({})), {"a": Weights({})}, ("a", Weights({})),
        Advisor(Asked([]), Shelf([])), Advisor, Desk(), Desk, (Desk(), ""), [Advisor(Asked([]), Shelf([]))],
        deep("a"), deep(("a",)), deep([]), deep(Same()), (deep("a", 36), ""), ((), deep("a", 36)),
        ((deep("a", 36),), "a"), [0] * 19999, tuple(range(19999)), (tuple(range(19990)), "a"),
    ]


def no_columns():
    return [*odd_values(), "", 0, 1, ("a",), ((), "a")]


def no_questions():
    return [*odd_values(), "", "a", "born", 0, 1, ("a",), ("a", "b"), ("b", "a")]


def no_indexes():
    return [*odd_values(), "", "a", "born", 0, 1, ((), "a"), (("a",), ""), (("a",), "b")]


def no_numbers(many):
    """Values that are no integers from 0 to many less one."""
    return [*odd_values(), "", "0", "a", ("a",), many, many + 1, -many, 10 ** 30]


def no_weights(greatest):
    """Values that are no integers from 1 to greatest."""
    found = [thing for thing in odd_values() if isinstance(thing, bool) or not isinstance(thing, int)]
    return [*found, 0, -1, greatest + 1, -greatest, "", "1", "a", [1], (1,), {1: 1}, [[1]]]


def all_indexes(columns):
    """All indexes over columns."""
    return [row for many in range(1, len(columns) + 1) for row in permutations(columns, many)]


def all_questions(columns):
    """All questions over columns, ascending."""
    found = []
    for many in range(len(columns) + 1):
        for asked in combinations(sorted(columns), many):
            found.extend((asked, last) for last in columns if last not in asked)
            if asked:
                found.append((asked, ""))
    return sorted(found)


def all_share(questions):
    """Whether each two of questions can share, by the words of the definition of below."""
    for one, other in combinations(sorted(set(questions)), 2):
        if not set(one[0]) | {one[1]} - {""} <= set(other[0]):
            if not set(other[0]) | {other[1]} - {""} <= set(one[0]):
                return False
    return True


def fits(index, question):
    """Whether index serves question, by the words of the definition."""
    asked, last = question
    front, behind = index[:len(asked)], index[len(asked):len(asked) + 1]
    return sorted(front) == sorted(asked) and (last == "" or behind == (last,))


def samples(many):
    """Lists of indexes and of questions, the same ones in each run."""
    chance = random.Random(7)
    indexes, questions = all_indexes("abcd"), all_questions("abcd")
    for _ in range(many):
        row = [chance.choice(indexes) for _ in range(chance.randrange(7))]
        yield row, sorted(set(chance.choice(questions) for _ in range(chance.randrange(9))))
