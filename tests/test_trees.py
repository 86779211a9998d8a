"""Points 16 and 17: the crossings of a tree, and hues on it."""

import itertools
import unittest

from tests.samples import (
    HUGE, NETS, STAR, WRONG_NETS, all_ways, counted_loads, drawn_pairs, drawn_ways, ends_of_ties, first_clash,
    places_of, refusal, right_pairs, walked_ties, wrong_ways,
)
from tiehues.crossings import best_lot, cross_hues
from tiehues.trees import crossing_at, join_hues, tree_hues

TREES = [net for net in NETS if net[0] == "tree"]
SMALL_TREES = [net for net in TREES if places_of(net) < 8]
OTHERS = [net for net in NETS if net[0] != "tree"]
TREE = ("tree", [0, 0, 1, 1, 2, 5])


def looked_at(net, ways, place):
    """Point 16 word by word."""
    ties = sorted(tie for tie, ends in enumerate(ends_of_ties(net)) if place in ends)
    pairs, numbers = [], []
    for number, way in enumerate(ways):
        own = [k for k, tie in enumerate(ties) if tie in walked_ties(net, way)]
        if own:
            pairs.append((own[0], own[-1]))
            numbers.append(number)
    return ((len(ties), pairs), numbers)


def crossings(net, ways):
    return [crossing_at(net, ways, place)[0] for place in range(places_of(net))]


def greedy(crossing, names):
    """Right hues, each the first of the names that is free."""
    hues = []
    for at, pair in enumerate(crossing[1]):
        met = [hues[k] for k in range(at) if set(crossing[1][k]) & set(pair)]
        hues.append(next(name for name in names if name not in met))
    return hues


def right_lists(net, ways):
    """Several lists of right hues at each place."""
    found = crossings(net, ways)
    yield [cross_hues(crossing) for crossing in found]
    yield [list(range(len(crossing[1]))) for crossing in found]
    yield [greedy(crossing, range(99)) for crossing in found]
    yield [greedy(crossing, range(98, -1, -1)) for crossing in found]
    yield [greedy(crossing, [(k + 3 * at) % 99 for k in range(99)]) for at, crossing in enumerate(found)]
    yield [greedy(crossing, [k * 7 % 97 * HUGE + at for k in range(97)]) for at, crossing in enumerate(found)]


class CrossingAt(unittest.TestCase):
    def check(self, net, ways, place):
        told = crossing_at(net, ways, place)
        self.assertEqual(told, looked_at(net, ways, place), (net, ways, place))
        self.assertEqual([type(part) for part in (told, *told, *told[0])], [tuple, tuple, list, int, list])
        self.assertTrue(all(type(pair) is tuple for pair in told[0][1]))

    def test_by_hand(self):
        ways = [(3, 4), (0, 1), (6, 3), (2, 6), (4, 1), (5, 2)]
        self.assertEqual(crossing_at(TREE, ways, 0), ((2, [(0, 0), (0, 1)]), [1, 2]))
        self.assertEqual(crossing_at(TREE, ways, 1), ((3, [(1, 2), (0, 0), (0, 1), (2, 2)]), [0, 1, 2, 4]))
        self.assertEqual(crossing_at(TREE, ways, 2), ((2, [(0, 1), (1, 1), (1, 1)]), [2, 3, 5]))
        self.assertEqual(crossing_at(TREE, ways, 3), ((1, [(0, 0), (0, 0)]), [0, 2]))
        self.assertEqual(crossing_at(TREE, ways, 6), ((1, [(0, 0), (0, 0)]), [2, 3]))

    def test_without_ways(self):
        for net in TREES:
            for place in range(places_of(net)):
                ties = sum(place in ends for ends in ends_of_ties(net))
                self.assertEqual(crossing_at(net, [], place), ((ties, []), []))

    def test_each_way_at_each_place(self):
        for net in SMALL_TREES:
            for place in range(places_of(net)):
                for way in all_ways(net):
                    self.check(net, [way], place)
                self.check(net, all_ways(net)[:40], place)

    def test_forty_ways(self):
        for net in TREES:
            ways = drawn_ways(net, 40, 1)
            for place in range(0, places_of(net), 1 if places_of(net) < 20 else 7):
                self.check(net, ways, place)

    def test_no_place(self):
        for net in TREES:
            many = places_of(net)
            for ways in ([], drawn_ways(net, 5, 2)):
                for place in (-1, -many, many, many + 1, HUGE, -HUGE):
                    self.assertEqual(refusal(crossing_at, net, ways, place), ("NoPlace",), (net, place))
                for place in (0, many - 1):
                    self.assertIsNone(refusal(crossing_at, net, ways, place))

    def test_order_of_refusals(self):
        for place in (0, -1, HUGE):
            for way in wrong_ways(TREE):
                for at in (0, 1, 38):
                    ways = [(0, 1)] * at + [way, (3, 3)]
                    self.assertEqual(refusal(crossing_at, TREE, ways, place), ("NoWay", at))
            for ways in ([], [(0, 1)], [(0, 0)]):
                for net in OTHERS:
                    self.assertEqual(refusal(crossing_at, net, ways, place), ("OtherNet",))
                for net in WRONG_NETS:
                    self.assertEqual(refusal(crossing_at, net, ways, place), ("NoNet",))


class TreeHues(unittest.TestCase):
    def check(self, net, ways):
        hues = tree_hues(net, ways)
        self.assertIsInstance(hues, list)
        self.assertTrue(all(type(hue) is int for hue in hues))
        self.assertIsNone(first_clash(net, ways, hues), (net, ways, hues))
        bound = 3 * max(counted_loads(net, ways)) // 2
        self.assertTrue(all(hue < bound for hue in hues), (net, ways, hues))

    def test_no_ways(self):
        for net in TREES:
            self.assertEqual(tree_hues(net, []), [])

    def test_single_ways(self):
        for net in SMALL_TREES:
            for way in all_ways(net):
                self.assertEqual(tree_hues(net, [way]), [0])

    def test_all_small_ones(self):
        for net, count in ((("tree", [0]), 4), (("tree", [0, 1]), 3), (("tree", [0, 0]), 3), (STAR, 3)):
            for ways in itertools.product(all_ways(net), repeat=count):
                self.check(net, list(ways))

    def test_three_ties_at_a_place(self):
        sides = [(1, 2), (3, 1), (2, 3)]
        for times in range(1, 14):
            self.check(STAR, sides * times)
            self.assertEqual(len(set(tree_hues(STAR, sides * times))), 3 * times)

    def test_stars(self):
        for leaves in (3, 5, 8, 59):
            for seed in range(6):
                pairs = drawn_pairs(leaves, 40, seed)
                self.check(("tree", [0] * leaves), [(s + 1, t + 1 if s != t else 0) for s, t in pairs])

    def test_one_tie_and_all_ties(self):
        self.check(("tree", list(range(59))), [(0, 59), (59, 0)] * 20)
        self.check(("tree", list(range(59))), [(k, k + 1) for k in range(40)])
        self.check(("tree", [0]), [(0, 1), (1, 0)] * 20)
        self.check(TREE, [(6, 4), (3, 6)] * 20)

    def test_forty_ways(self):
        for net in TREES:
            for seed in range(6):
                self.check(net, drawn_ways(net, 40, seed))
        for seed in range(20):
            parents = [(7 * seed + 5 * k * k + k // 3) % (k + 1) for k in range(10 + seed)]
            self.check(("tree", parents), drawn_ways(("tree", parents), 40, seed))

    def test_more_than_forty_ways_are_no_fault(self):
        self.check(STAR, [(1, 2), (3, 1), (2, 3)] * 23)

    def test_refusals(self):
        for net in TREES:
            for way in wrong_ways(net):
                for at in (0, 1, 38):
                    self.assertEqual(refusal(tree_hues, net, [(0, 1)] * at + [way, (0, 0)]), ("NoWay", at))
        for ways in ([], [(0, 1)], [(0, 0)]):
            for net in OTHERS:
                self.assertEqual(refusal(tree_hues, net, ways), ("OtherNet",))
            for net in WRONG_NETS:
                self.assertEqual(refusal(tree_hues, net, ways), ("NoNet",))


class JoinHues(unittest.TestCase):
    def check(self, net, ways, lists):
        hues = join_hues(net, ways, lists)
        self.assertIsInstance(hues, list)
        self.assertTrue(all(type(hue) is int for hue in hues))
        self.assertIsNone(first_clash(net, ways, hues), (net, ways, lists, hues))
        greatest = max((hue for told in lists for hue in told), default=-1)
        self.assertTrue(all(hue <= greatest for hue in hues), (net, ways, lists, hues))

    def test_no_ways(self):
        for net in TREES:
            self.assertEqual(join_hues(net, [], [[] for place in range(places_of(net))]), [])

    def test_by_hand(self):
        net, ways = ("tree", [0, 1]), [(0, 2), (1, 0), (2, 1)]
        self.check(net, ways, [[0, 1], [0, 1, 1], [1, 0]])
        self.assertEqual(len(set(join_hues(net, ways, [[1, 0], [0, 1, 1], [0, 1]]))), 2)
        self.check(net, ways, [[1, 0], [0, 1, 1], [HUGE, 0]])
        self.assertEqual(join_hues(("tree", [0]), [(1, 0)], [[0], [0]]), [0])

    def test_several_lists(self):
        for net in SMALL_TREES:
            for seed in range(12):
                ways = drawn_ways(net, 1 + 3 * seed, seed)
                for lists in right_lists(net, ways):
                    self.check(net, ways, lists)

    def test_forty_ways(self):
        for net in TREES:
            ways = drawn_ways(net, 40, 3)
            for lists in right_lists(net, ways):
                self.check(net, ways, lists)

    def test_told_hues_are_put_together_anew(self):
        for net in SMALL_TREES:
            ways = drawn_ways(net, 9, 4)
            hues = tree_hues(net, ways)
            numbers = [crossing_at(net, ways, place)[1] for place in range(places_of(net))]
            self.check(net, ways, [[hues[number] for number in row] for row in numbers])

    def test_no_more_than_at_the_worst_place(self):
        ways = [(1, 2), (2, 3), (3, 1)]
        self.assertEqual(best_lot(crossing_at(STAR, ways, 0)[0])[0], 3)
        self.assertEqual(sorted(join_hues(STAR, ways, [[0, 1, 2], [0, 1], [1, 0], [2, 0]])), [0, 1, 2])

    def test_all_small_ones(self):
        net = ("tree", [0, 0, 1])
        for ways in itertools.product(all_ways(net)[::2], repeat=3):
            found = crossings(net, list(ways))
            options = [
                [list(hues) for hues in itertools.product(range(3), repeat=len(crossing[1]))]
                for crossing in found
            ]
            for at, crossing in enumerate(found):
                others = [greedy(other, range(9)) for other in found]
                for told in options[at]:
                    lists = others[:at] + [told] + others[at + 1:]
                    if right_pairs(crossing, told):
                        self.check(net, list(ways), lists)
                    else:
                        self.assertEqual(refusal(join_hues, net, list(ways), lists), ("NoHues", at))


class NoRightLists(unittest.TestCase):
    def bent(self, told):
        yield told + [max(told, default=0) + 1]
        if told:
            yield told[:-1]
            yield []
            yield [-1] + told[1:]
            yield told[:-1] + [-HUGE]

    def test_bent(self):
        for net in SMALL_TREES:
            ways = drawn_ways(net, 8, 5)
            lists = next(right_lists(net, ways))
            for at, told in enumerate(lists):
                for wrong in self.bent(told):
                    changed = lists[:at] + [wrong] + lists[at + 1:]
                    self.assertEqual(refusal(join_hues, net, ways, changed), ("NoHues", at))
                    self.assertEqual(refusal(join_hues, net, ways, changed[:at + 1]), ("NoHues", at))
                    self.assertEqual(refusal(join_hues, net, ways, changed + [[]]), ("NoHues", at))
                    worse = changed[:at + 1] + [[-1]] * 3
                    self.assertEqual(refusal(join_hues, net, ways, worse), ("NoHues", at))

    def test_two_alike(self):
        ways = [(1, 2), (1, 3), (0, 1), (2, 3)]
        right = [[0, 1, 2, 2], [0, 1, 2], [0, 1], [0, 1]]
        self.assertEqual(len(join_hues(STAR, ways, right)), 4)
        for at, wrong in ((0, [0, 0, 2, 2]), (0, [0, 1, 0, 2]), (0, [0, 1, 2, 1]), (1, [0, 1, 0]), (3, [5, 5])):
            lists = right[:at] + [wrong] + right[at + 1:]
            self.assertEqual(refusal(join_hues, STAR, ways, lists), ("NoHues", at))

    def test_more_and_fewer_lists(self):
        for net in TREES:
            many = places_of(net)
            for ways in ([], drawn_ways(net, 6, 6)):
                lists = [cross_hues(crossing) for crossing in crossings(net, ways)]
                for wrong in ([], lists[:1], lists[:-1], lists + [[]], lists + [[0]], lists + [[-1], [0]]):
                    self.assertEqual(refusal(join_hues, net, ways, wrong), ("NoHues", many), (net, wrong))

    def test_order_of_refusals(self):
        for lists in ([], [[0]], [[-1]] * 7):
            for way in wrong_ways(TREE):
                for at in (0, 1, 38):
                    ways = [(0, 1)] * at + [way, (3, 3)]
                    self.assertEqual(refusal(join_hues, TREE, ways, lists), ("NoWay", at))
            for ways in ([], [(0, 1)], [(0, 0)]):
                for net in OTHERS:
                    self.assertEqual(refusal(join_hues, net, ways, lists), ("OtherNet",))
                for net in WRONG_NETS:
                    self.assertEqual(refusal(join_hues, net, ways, lists), ("NoNet",))
