"""The most questions that one index serves, and layers of questions of which no two can share."""

from narrowkeys.laid import is_apart_list
from narrowkeys.questions import is_below, width


def rank(question):
    """Less for a question than for those that it is below."""
    return width(question), len(question[0])


def heights(asked):
    """For each question the greatest number of questions up to it, each below the next one."""
    found = {}
    for question in sorted(asked, key=rank):
        below = [height for one, height in found.items() if is_below(one, question)]
        found[question] = 1 + max(below, default=0)
    return found


def most_served(asked):
    found = heights(asked)
    return max(found.values(), default=0)


def layers(asked):
    found = heights(asked)
    many = max(found.values(), default=0)
    return [[question for question in asked if found[question] == height] for height in range(1, many + 1)]


def longest(asked):
    """From the highest layer down: each question has one below it in the layer ahead."""
    chain = []
    for layer in layers(asked)[::-1]:
        fitting = [question for question in layer if chain == [] or is_below(question, chain[0])]
        chain = [fitting[0], *chain]
    return chain


def is_longest(asked, thing):
    if not isinstance(thing, list) or len(thing) != most_served(asked):
        return False
    if not all([question in asked for question in thing]):
        return False
    return all([is_below(one, other) for one, other in zip(thing, thing[1:])])


def is_layers(asked, thing):
    # Fewer lists do not suffice, so that none of these can be empty if they have all questions.
    if not isinstance(thing, list) or len(thing) != most_served(asked):
        return False
    if not all([is_apart_list(asked, part) for part in thing]):
        return False
    return sorted([question for part in thing for question in part]) == asked.questions()
