import unittest
from itertools import combinations, permutations, product

from narrowkeys.asked import Asked
from narrowkeys.errors import NoOrder, TooMany, Wrong
from narrowkeys.lots import Lot
from odd import Same, deep, no_numbers, no_weights, odd_values
from plain import partitions, some_orders, subsets

GREATEST = 10 ** 39
PRINTED = [1, 2, 2, 1], [(0, 1), (0, 2), (3, 2)]


def apart(things, pairs):
    return not any((low, high) in pairs or (high, low) in pairs for low, high in combinations(things, 2))


def chain_of(things, pairs):
    """The things as a chain, or None."""
    for row in permutations(things):
        if all(pair in pairs for pair in zip(row, row[1:])):
            return list(row)
    return None


def searched(weights, pairs):
    """The levels and the least sum by a search through all lists of things and all ways to lay them."""
    things = range(len(weights))
    levels = []
    for level in sorted(set(weights)):
        heavy = [thing for thing in things if weights[thing] >= level]
        levels.append((level, max(len(part) for part in subsets(heavy) if apart(part, pairs))))
    sums = []
    for parts in partitions(list(things)):
        chains = [chain_of(part, pairs) for part in parts]
        if None not in chains:
            sums.append(sum(weights[chain[-1]] for chain in chains))
    return levels, min(sums)


def first_fault(weights, pairs):
    """The least pair by which there is no order, by the words of the document."""
    things = range(len(weights))
    for low, high in product(things, repeat=2):
        if (low, high) in pairs:
            if low == high or weights[high] < weights[low]:
                return low, high
        elif any((low, middle) in pairs and (middle, high) in pairs for middle in things):
            return low, high
    return None


def rows_of(part):
    """All ways to write the chains of a part: the things of each chain in any order, the chains too."""
    for lists in product(*[list(permutations(one)) for one in part]):
        for row in permutations(lists):
            yield [list(one) for one in row]


class LotTest(unittest.TestCase):
    def raises(self, error, weights, pairs):
        with self.assertRaises(error) as caught:
            Lot(weights, pairs)
        return caught.exception

    def check_chains(self, lot, weights, pairs, chains):
        self.assertIs(type(chains), list)
        self.assertEqual({list}, {type(chain) for chain in chains} | {list})
        self.assertEqual(list(range(len(weights))), sorted(thing for chain in chains for thing in chain))
        for chain in chains:
            self.assertTrue(chain)
            self.assertTrue(all(pair in pairs for pair in zip(chain, chain[1:])))
        self.assertEqual(lot.least_sum(), sum(weights[chain[-1]] for chain in chains))
        self.assertIs(lot.is_chains(chains), True)

    def check_apart(self, weights, pairs, level, many, things):
        self.assertIs(type(things), list)
        self.assertEqual(sorted(set(things)), things)
        self.assertEqual(many, len(things))
        self.assertTrue(all(weights[thing] >= level for thing in things))
        self.assertTrue(apart(things, pairs))

    def check(self, weights, pairs, levels, least):
        lot = Lot(weights, pairs)
        self.assertEqual([levels, least], [lot.levels(), lot.least_sum()])
        self.assertEqual(levels[0][1] if levels else 0, lot.width())
        self.check_chains(lot, weights, pairs, lot.chains())
        known = dict(levels)
        asked = sorted({level + more for level in [0, *known] for more in (-1, 0, 1)} | {-GREATEST, 10 ** 40})
        for level in asked:
            many = next((known[one] for one in sorted(known) if one >= level), 0)
            self.check_apart(weights, pairs, level, many, lot.apart_from(level))
        paper = lot.paper()
        self.assertIs(type(paper), tuple)
        chains, lists = paper
        self.check_chains(lot, weights, pairs, chains)
        self.assertIs(type(lists), list)
        self.assertEqual(len(levels), len(lists))
        for (level, many), things in zip(levels, lists):
            self.check_apart(weights, pairs, level, many, things)
        self.assertIs(lot.is_paper(paper), True)
        # One list of chains has the fewest tops at all levels.
        steps = [level - ahead for level, ahead in zip([0, *known][1:], [0, *known])]
        self.assertEqual(least, sum(step * many for step, (_, many) in zip(steps, levels)))

    def test_the_printed_answers(self):
        lot = Lot(*PRINTED)
        self.assertEqual([2, 4, [(1, 2), (2, 2)], [1, 2]],
                         [lot.width(), lot.least_sum(), lot.levels(), lot.apart_from(2)])
        self.assertIs(lot.is_paper(([[0, 1], [3, 2]], [[1, 3], [1, 2]])), True)
        self.check(*PRINTED, [(1, 2), (2, 2)], 4)

    def test_no_things(self):
        for lot in (Lot([], []), Lot((), ())):
            self.assertEqual([0, 0, 0], [len(lot), lot.width(), lot.least_sum()])
            self.assertEqual([[]] * 6, [lot.weights(), lot.pairs(), lot.levels(), lot.chains(), lot.apart_from(1),
                                        lot.apart_from(-1)])
            self.assertEqual(([], []), lot.paper())
            self.assertEqual([True, False, False], [lot.is_chains([]), lot.is_chains([[]]), lot.is_chains(())])
            self.assertEqual([True, False, False], [lot.is_paper(([], [])), lot.is_paper(([], [[]])), lot.is_paper(())])
        self.assertEqual(1, self.raises(Wrong, [], [(0, 0)]).place)

    def test_told_lists(self):
        lot = Lot((3, 1, 5), ((1, 2), (1, 0), (0, 2), (1, 2)))
        self.assertEqual([3, 1, 5], lot.weights())
        self.assertEqual([(0, 2), (1, 0), (1, 2)], lot.pairs())
        self.assertEqual(3, len(lot))
        above = [(high, low) for high in range(3) for low in range(3) if lot.is_above(high, low)]
        self.assertEqual([(0, 1), (2, 0), (2, 1)], above)
        self.assertIs(lot.is_above(2, 1), True)
        self.assertIs(lot.is_above(1, 2), False)
        self.assertIs(lot.is_above(1, 1), False)

    def test_small_orders_by_a_search(self):
        for weights in product([1, 2, 4], repeat=3):
            for pairs in subsets([(low, high) for low in range(3) for high in range(3)]):
                if first_fault(weights, pairs) is None:
                    self.check(list(weights), pairs, *searched(weights, pairs))

    def test_orders_by_a_search(self):
        for weights, pairs in some_orders(250, 6):
            self.check(weights, pairs, *searched(weights, pairs))

    def test_least_sum_needs_moved_links(self):
        # The thing 2 must give up the thing 3 for the thing 1, and the heavy 0 goes ahead of both.
        weights, pairs = [3, 1, 1, 3, 3], [(0, 3), (1, 3), (2, 3), (2, 4)]
        self.check(weights, pairs, *searched(weights, pairs))

    def test_no_order_by_a_search(self):
        for weights in product([1, 2], repeat=3):
            for pairs in subsets([(low, high) for low in range(3) for high in range(3)]):
                fault = first_fault(weights, pairs)
                if fault is None:
                    self.assertEqual(pairs, Lot(weights, pairs[::-1]).pairs())
                else:
                    told = self.raises(NoOrder, weights, pairs[::-1]).pair
                    self.assertEqual(fault, told)
                    self.assertIs(type(told), tuple)

    def test_no_order(self):
        self.assertEqual((1, 1), self.raises(NoOrder, [1, 1], [(1, 1)]).pair)
        self.assertEqual((0, 0), self.raises(NoOrder, [1, 1], [(1, 0), (0, 1)]).pair)
        self.assertEqual((0, 1), self.raises(NoOrder, [2, 1], [(0, 1)]).pair)
        self.assertEqual((0, 2), self.raises(NoOrder, [1, 1, 1], [(0, 1), (1, 2)]).pair)
        # Of several the least one, whatever is at fault with it.
        five = [1] * 5
        self.assertEqual((0, 2), self.raises(NoOrder, five, [(3, 3), (1, 2), (0, 1)]).pair)
        self.assertEqual((0, 3), self.raises(NoOrder, five, [(3, 4), (2, 3), (0, 4), (0, 2)]).pair)
        self.assertEqual((0, 1), self.raises(NoOrder, [2, 1, 1, 1, 1], [(2, 3), (3, 4), (0, 1)]).pair)
        self.assertEqual((2, 4), self.raises(NoOrder, five, [(4, 4), (2, 3), (3, 4)]).pair)
        self.assertEqual((0, 2), self.raises(NoOrder, [3, 3, 1], [(0, 1), (1, 2)]).pair)

    def test_no_order_of_forty_eight(self):
        chain = [(low, high) for low in range(48) for high in range(low + 1, 48)]
        self.assertEqual((45, 45), self.raises(NoOrder, [1] * 48, [*chain, (47, 45)]).pair)
        left_out = [pair for pair in chain if pair not in ((3, 40), (3, 41), (20, 22))]
        self.assertEqual((3, 40), self.raises(NoOrder, [1] * 48, left_out).pair)
        weights = [1] * 47 + [2]
        self.assertEqual((0, 1), self.raises(NoOrder, [2, *weights[1:]], chain).pair)
        self.assertEqual(48, len(Lot(weights, chain)))

    def test_wrong_weights(self):
        for thing in odd_values():
            if not isinstance(thing, (list, tuple)) or any(not isinstance(one, int) for one in thing):
                self.assertEqual(0, self.raises(Wrong, thing, []).place)
                self.assertEqual(0, self.raises(Wrong, thing, None).place)
        for thing in no_weights(GREATEST):
            self.assertEqual(0, self.raises(Wrong, [thing], []).place)
            self.assertEqual(0, self.raises(Wrong, (1, thing), [(0, 1)]).place)
            self.assertEqual(0, self.raises(Wrong, [thing, 1, 1], [(0, 1), (1, 2)]).place)
        for thing in ({0: 1}, {1}, iter([1]), range(1, 3), Lot([1], []), Asked([]), "1", b"\x01", 1):
            self.assertEqual(0, self.raises(Wrong, thing, []).place)

    def test_least_and_greatest_weights(self):
        self.assertEqual([1, GREATEST], Lot([1, GREATEST], []).weights())
        self.assertEqual(0, self.raises(Wrong, [1, GREATEST + 1], []).place)
        self.assertEqual(0, self.raises(Wrong, [1, 0], []).place)
        self.check([1, GREATEST], [(0, 1)], [(1, 1), (GREATEST, 1)], GREATEST)
        self.check([GREATEST, 1, GREATEST], [(1, 0)], [(1, 2), (GREATEST, 2)], 2 * GREATEST)

    def test_wrong_pairs(self):
        for thing in odd_values():
            if not isinstance(thing, (list, tuple)) or len(thing) > 0:
                self.assertEqual(1, self.raises(Wrong, [1, 2], thing).place)
        for thing in [*odd_values(), 0, 1, "01", [0, 1], (0,), (0, 1, 1), ((0, 1),), {0: 1}, range(2)]:
            self.assertEqual(1, self.raises(Wrong, [1, 2], [thing]).place)
            self.assertEqual(1, self.raises(Wrong, (1, 2), ((0, 1), thing)).place)
        for thing in no_numbers(2):
            self.assertEqual(1, self.raises(Wrong, [1, 2], [(0, thing)]).place)
            self.assertEqual(1, self.raises(Wrong, [1, 2], [(0, 1), (thing, 1)]).place)
        self.assertEqual(1, self.raises(Wrong, [1, 2], {(0, 1)}).place)
        self.assertEqual(1, self.raises(Wrong, [1, 2], {(0, 1): 1}).place)

    def test_which_error_comes_first(self):
        self.assertEqual(0, self.raises(Wrong, [0], [(0, 5)]).place)
        # A number that no thing has comes ahead of what is no order, and ahead of too many things.
        self.assertEqual(1, self.raises(Wrong, [2, 1], [(0, 1), (1, 2)]).place)
        self.assertEqual(1, self.raises(Wrong, [1] * 49, [(0, 49)]).place)
        self.assertEqual(1, self.raises(Wrong, [1] * 49, [(0, 48), deep((0, 1), 36)]).place)
        self.assertEqual(0, self.raises(Wrong, [1] * 49 + [0], [(0, 48)]).place)
        self.assertEqual(48, self.raises(TooMany, [1] * 49, [(0, 48)]).limit)
        self.assertEqual(48, self.raises(TooMany, [1] * 49, [(48, 48), (0, 1), (1, 0)]).limit)
        self.assertEqual(48, self.raises(TooMany, [1] * 19000, [(18999, 0)]).limit)
        self.assertEqual((1, 1), self.raises(NoOrder, [1] * 48, [(1, 1)]).pair)

    def test_a_call_that_raises_changes_nothing(self):
        weights, pairs = [2, 1, 3], [(0, 1), (0, 1), (1, 2)]
        self.raises(NoOrder, weights, pairs)
        self.assertEqual([[2, 1, 3], [(0, 1), (0, 1), (1, 2)]], [weights, pairs])
        weights[0] = 1
        pairs.append((0, 2))
        self.assertEqual(1, Lot(weights, pairs).width())

    def test_lists_are_copied(self):
        weights, pairs = [1, 2, 2], [(0, 2), (0, 1)]
        lot = Lot(weights, pairs)
        weights[0] = 9
        weights.append(3)
        pairs.clear()
        expected = [[1, 2, 2], [(0, 1), (0, 2)], [(1, 2), (2, 2)], [1, 2]]
        chains, paper = Lot([1, 2, 2], [(0, 1), (0, 2)]).chains(), Lot([1, 2, 2], [(0, 1), (0, 2)]).paper()
        for _ in range(2):
            told = [lot.weights(), lot.pairs(), lot.levels(), lot.apart_from(1)]
            self.assertEqual([expected, chains, paper], [told, lot.chains(), lot.paper()])
            for one in [*told, lot.chains(), *lot.paper()]:
                for inner in one:
                    if isinstance(inner, list):
                        inner.append(7)
                one.append(8)

    def test_nothing_stands_twice_in_one_result(self):
        lot = Lot([1, 2, 3, 3], [(0, 1)])
        chains, lists = lot.paper()
        inner = [*chains, *lists]
        self.assertEqual(len(inner), len({id(one) for one in inner}))

    def test_equal(self):
        lot = Lot(*PRINTED)
        weights, pairs = PRINTED
        self.assertIs(lot == Lot(tuple(weights), [*pairs[::-1], *pairs]), True)
        self.assertIs(lot != Lot(tuple(weights), [*pairs[::-1], *pairs]), False)
        for other in (Lot(weights, pairs[1:]), Lot([1, 2, 2, 2], pairs), Lot([*weights, 1], pairs), Lot([], [])):
            self.assertIs(lot == other, False)
            self.assertIs(lot != other, True)
        for thing in [*odd_values(), PRINTED, weights, pairs, "", 4]:
            if not isinstance(thing, (Same, Lot)):
                self.assertIs(lot == thing, False)
                self.assertIs(thing == lot, False)
        self.assertIs(lot == Same(), False)
        self.assertIs(Lot([], []) == [], False)

    def test_equal_lots_answer_the_same(self):
        for weights, pairs in some_orders(80, 8, seed=11):
            one, other = Lot(weights, pairs), Lot(tuple(weights), tuple([*pairs[::-1], *pairs]))
            self.assertEqual(one, other)
            for _ in range(2):
                self.assertEqual(one.chains(), other.chains())
                self.assertEqual(one.paper(), other.paper())
                self.assertEqual(one.levels(), other.levels())
                for level in weights:
                    self.assertEqual(one.apart_from(level), other.apart_from(level))

    def test_other_numbers_give_the_same_answers(self):
        for weights, pairs in some_orders(80, 8, seed=12):
            new = list(range(len(weights)))[::-1]
            lot, other = Lot(weights, pairs), Lot(weights[::-1], [(new[low], new[high]) for low, high in pairs])
            self.assertEqual([lot.width(), lot.levels(), lot.least_sum()],
                             [other.width(), other.levels(), other.least_sum()])
            self.assertIs(other.is_chains([[new[thing] for thing in chain] for chain in lot.chains()]), True)

    def test_forty_eight_things(self):
        chain = [(low, high) for low in range(48) for high in range(low + 1, 48)]
        weights = list(range(1, 49))
        self.check(weights, chain, [(weight, 1) for weight in weights], 48)
        self.check([7] * 48, chain, [(7, 1)], 7)
        self.check([7] * 48, [], [(7, 48)], 7 * 48)
        self.check(weights, [], [(weight, 49 - weight) for weight in weights], sum(weights))
        halves = [(low, high) for low in range(24) for high in range(24, 48)]
        self.check([1] * 24 + [5] * 24, halves, [(1, 24), (5, 24)], 120)
        rows = [(low, high) for low, high in chain if low // 4 < high // 4]
        self.check([thing // 4 + 1 for thing in range(48)], rows, [(level, 4) for level in range(1, 13)], 48)

    def test_forty_eight_subsets(self):
        # The subsets of six things by size: one of the widest rows of the order is that of the three.
        parts = [set(part) for many in range(1, 5) for part in combinations(range(6), many)][:48]
        pairs = [(low, high) for low in range(48) for high in range(48) if parts[low] < parts[high]]
        weights = [len(part) for part in parts]
        lot = Lot(weights, pairs)
        self.assertEqual(20, lot.width())
        self.check(weights, pairs, lot.levels(), lot.least_sum())

    def test_is_chains_by_a_search(self):
        for weights, pairs in [PRINTED, *some_orders(12, 4, seed=3)]:
            lot = Lot(weights, pairs)
            for part in partitions(list(range(len(weights)))):
                for row in rows_of(part):
                    right = all(pair in pairs for chain in row for pair in zip(chain, chain[1:]))
                    right = right and sum(weights[chain[-1]] for chain in row) == lot.least_sum()
                    self.assertIs(lot.is_chains(row), right)

    def test_is_paper_by_a_search(self):
        weights, pairs = [1, 1, 2], [(0, 2)]
        lot = Lot(weights, pairs)
        parts = [row for part in partitions([0, 1, 2]) for row in rows_of(part)]
        lists = [list(row) for many in range(4) for row in permutations(range(3), many)]
        for row, one, other in product(parts, lists, lists):
            right = all(pair in pairs for chain in row for pair in zip(chain, chain[1:]))
            right = right and one == sorted(one) and other == sorted(other)
            right = right and apart(one, pairs) and apart(other, pairs) and all(weights[at] > 1 for at in other)
            right = right and sum(weights[chain[-1]] for chain in row) == len(one) + len(other)
            self.assertIs(lot.is_paper((row, [one, other])), right)

    def test_any_value_may_be_no_chains(self):
        lot = Lot(*PRINTED)
        for thing in [*odd_values(), lot.chains, [0, 1, 2, 3], "0123", [[0, 1, 2, 3]], {0: [0, 1]}]:
            self.assertIs(lot.is_chains(thing), False)
            self.assertIs(lot.is_chains([[0, 1], [3, 2], thing]), False)
            self.assertIs(lot.is_chains([[0, 1], thing]), False)
            self.assertIs(lot.is_chains([[0, 1], [3, 2, thing]]), False)
            self.assertIs(lot.is_chains([[0, 1], [thing, 2]]), False)
        self.assertIs(lot.is_chains([[0, 1], [3, 2]]), True)
        for wrong in ([[0, 1], (3, 2)], ([0, 1], [3, 2]), [[0, 1], [3, 2], []], [[0, 1], [3, 2], [3, 2]], [[0, 1]],
                      [[0, True], [3, 2]], [[False, 1], [3, 2]], [[1, 0], [3, 2]], [[0, 2], [3], [1]],
                      [[0, 1], [-1, 2]], [[0, 1], [3, 4], [2]], [[0, 1, 2], [3]], [[0], [1], [3, 2]],
                      [[0, 1]] * 10000, [[0] * 19990], [[0, 1], [3, "2"]]):
            self.assertIs(lot.is_chains(wrong), False)

    def test_true_and_false_are_no_numbers(self):
        lot = Lot([1, 1], [(0, 1)])
        self.assertIs(lot.is_chains([[0, 1]]), True)
        self.assertIs(lot.is_chains([[False, True]]), False)
        self.assertIs(lot.is_paper(([[0, 1]], [[1]])), True)
        self.assertIs(lot.is_paper(([[0, 1]], [[True]])), False)
        self.assertIs(lot.is_paper(([[0, 1]], [[False]])), False)
        self.assertIs(lot.is_paper(([[0, True]], [[1]])), False)

    def test_any_value_may_be_no_paper(self):
        lot = Lot(*PRINTED)
        chains, lists = [[0, 1], [3, 2]], [[1, 3], [1, 2]]
        for thing in odd_values():
            for wrong in (thing, (chains, thing), (thing, lists), (chains, [[1, 3], thing]), (chains, lists, thing),
                          (chains, [thing, [1, 2]]), (chains, [[1, 3], [1, thing]]), (chains, [*lists, thing]),
                          ([[0, 1], [thing, 2]], lists), ([*chains, thing], lists)):
                self.assertIs(lot.is_paper(wrong), False)
        for wrong in ([chains, lists], (chains, tuple(lists)), (tuple(chains), lists), (chains, [(1, 3), [1, 2]]),
                      ([(0, 1), [3, 2]], lists), (chains, [[3, 1], [1, 2]]), (chains, [[1, 1], [1, 2]]), (chains, []),
                      (chains, lists[:1]), (chains, [*lists, []]), (chains, [[1, 3], [1, 3]]), (chains, [[0, 1], [1, 2]]),
                      (chains, [[1, 3], [1]]), (chains, lists[::-1]), ([[0, 1]], lists), ([[0], [1], [3, 2]], lists),
                      (lists, chains), (chains, [[1, 4], [1, 2]]), (chains, [[-3, 3], [1, 2]]), (chains,), ()):
            self.assertIs(lot.is_paper(wrong), False)
        self.assertIs(lot.is_paper((chains[::-1], lists)), True)
        self.assertIs(lot.is_paper((chains, [[1, 2], [1, 2]])), True)
        self.assertIs(lot.is_paper(([[0, 2], [3], [1]], lists)), False)

    def test_chains_that_are_checked_stay_as_they_are(self):
        lot = Lot(*PRINTED)
        chains, lists = [[3, 2], [0, 1]], [[1, 3], [1, 2]]
        lot.is_chains(chains)
        lot.is_paper((chains, lists))
        self.assertEqual(([[3, 2], [0, 1]], [[1, 3], [1, 2]]), (chains, lists))


if __name__ == "__main__":
    unittest.main()
