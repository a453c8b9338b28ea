"""Plain searches through all lists and all ways to lay things, to compare answers with."""

import random
from itertools import combinations

from odd import all_indexes, all_questions, fits


def partitions(row):
    """All ways to lay the things of row in lists, each thing in one of them, the things in their order."""
    if not row:
        yield []
        return
    for parts in partitions(row[1:]):
        yield [[row[0]], *parts]
        for at, part in enumerate(parts):
            yield [*parts[:at], [row[0], *part], *parts[at + 1:]]


def subsets(row):
    for many in range(len(row) + 1):
        yield from (list(part) for part in combinations(row, many))


def under(one, other):
    """Whether one question is below other, by the words of the definition."""
    return one != other and set(one[0]) | ({one[1]} - {""}) <= set(other[0])


def lie_apart(questions):
    return not any(under(one, other) or under(other, one) for one, other in combinations(questions, 2))


def weight_of(thing, table):
    """The weight of a question or an index by table, a dict."""
    columns = [*thing[0], *([thing[1]] if thing[1] else [])] if isinstance(thing[0], tuple) else thing
    return sum(table.get(column, 1) for column in columns)


def most_apart(questions):
    """The greatest number of questions that are apart."""
    return max(len(part) for part in subsets(questions) if lie_apart(part))


def mask_of(index, questions):
    """A number that has a bit for each of questions that index serves."""
    return sum(1 << at for at, question in enumerate(questions) if fits(index, question))


def cheapest(start, choices):
    """The least sum of prices for each mask, if any of choices, tuples (mask, price), are put to masks in start."""
    best = dict(start)
    for mask, price in choices:
        for served, paid in list(best.items()):
            key = served | mask
            best[key] = min(best.get(key, paid + price), paid + price)
    return best


def costs_of_shelves(questions, columns, price, counted=()):
    """The least price of a list of indexes over columns that serves all of questions.

    It is told for each number of indexes that have just the columns in counted: a dict.
    """
    best = {(0, 0): 0}
    for index in all_indexes(columns):
        mask = mask_of(index, questions)
        more = 1 if sorted(index) == sorted(counted) else 0
        for (served, many), paid in list(best.items()):
            key = served | mask, many + more
            best[key] = min(best.get(key, paid + price(index)), paid + price(index))
    full = (1 << len(questions)) - 1
    return {many: paid for (served, many), paid in best.items() if served == full}


def least_price(questions, columns, price):
    return min(costs_of_shelves(questions, columns, price).values())


def some_questions(many, most, columns="abc", seed=5):
    """Lists of different questions, ascending, the same ones in each run; the first one is empty."""
    chance = random.Random(seed)
    everything = all_questions(columns)
    yield []
    for _ in range(many):
        yield sorted(chance.sample(everything, chance.randrange(1, most + 1)))


def some_tables(many, columns="abc", seed=6):
    """Dicts of weights, the same ones in each run."""
    chance = random.Random(seed)
    for _ in range(many):
        yield {column: chance.choice([1, 2, 3, 5, 10 ** 30]) for column in columns if chance.random() < 0.8}


def some_shelves(many, most, columns="abc", seed=7):
    """Lists of indexes, the same ones in each run; the first one is empty."""
    chance = random.Random(seed)
    indexes = all_indexes(columns)
    yield []
    for _ in range(many):
        yield [chance.choice(indexes) for _ in range(chance.randrange(most + 1))]


def some_orders(many, most, seed=8):
    """Tuples (weights, pairs) of orders of at most so many things, the same ones in each run."""
    chance = random.Random(seed)
    for _ in range(many):
        row = list(range(chance.randrange(1, most + 1)))
        chance.shuffle(row)
        above = {low: set() for low in row}
        for at in range(len(row) - 1, -1, -1):
            for other in row[at + 1:]:
                if chance.random() < 0.4:
                    above[row[at]] |= {other} | above[other]
        weights = [0] * len(row)
        for at, thing in enumerate(row):
            below = [weights[low] for low in row[:at] if thing in above[low]]
            weights[thing] = max(below, default=1) + chance.choice([0, 0, 1, 2, 10 ** 37])
        yield weights, sorted((low, high) for low in row for high in above[low])
