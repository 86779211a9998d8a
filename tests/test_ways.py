"""Point 5: the ties of ways, and loads."""

import unittest

from tests.samples import (
    GREAT_NETS, NETS, SMALL_NETS, all_ways, counted_loads, drawn_ways, ends_of_ties, places_of, walked_ties,
    wrong_ways,
)
from tiehues.errors import NoWay
from tiehues.nets import clash, load, loads, ties_of

TREE = ("tree", [0, 0, 1, 1, 2, 5])


class TiesOf(unittest.TestCase):
    def test_line(self):
        self.assertEqual(ties_of(("line", 5), (1, 4)), [1, 2, 3])
        self.assertEqual(ties_of(("line", 5), (4, 1)), [1, 2, 3])
        self.assertEqual(ties_of(("line", 2), (0, 1)), [0])
        self.assertEqual(ties_of(("line", 60), (59, 0)), list(range(59)))

    def test_ring(self):
        self.assertEqual(ties_of(("ring", 5), (1, 4)), [1, 2, 3])
        self.assertEqual(ties_of(("ring", 5), (4, 1)), [0, 4])
        self.assertEqual(ties_of(("ring", 5), (4, 0)), [4])
        self.assertEqual(ties_of(("ring", 5), (0, 4)), [0, 1, 2, 3])
        self.assertEqual(ties_of(("ring", 60), (59, 58)), list(range(58)) + [59])

    def test_tree(self):
        self.assertEqual(ties_of(TREE, (3, 4)), [2, 3])
        self.assertEqual(ties_of(TREE, (6, 4)), [0, 1, 3, 4, 5])
        self.assertEqual(ties_of(TREE, (0, 6)), [1, 4, 5])
        self.assertEqual(ties_of(TREE, (6, 2)), [4, 5])
        self.assertEqual(ties_of(("tree", [0]), (1, 0)), [0])

    def test_all_ways_of_all_nets(self):
        for net in NETS:
            for way in all_ways(net):
                self.assertEqual(ties_of(net, way), walked_ties(net, way), (net, way))

    def test_turned_ways(self):
        for net in NETS:
            every = set(range(len(ends_of_ties(net))))
            for a, b in all_ways(net):
                there, back = ties_of(net, (a, b)), ties_of(net, (b, a))
                if net[0] == "ring":
                    self.assertEqual(sorted(there + back), sorted(every))
                else:
                    self.assertEqual(there, back)

    def test_no_ways(self):
        for net in NETS:
            for way in wrong_ways(net):
                with self.assertRaises(NoWay, msg=(net, way)) as caught:
                    ties_of(net, way)
                self.assertIsNone(caught.exception.at)


class Loads(unittest.TestCase):
    def test_without_ways(self):
        for net in NETS:
            self.assertEqual(loads(net, []), [0] * len(ends_of_ties(net)))
            self.assertEqual(load(net, []), 0)

    def test_alike_and_turned(self):
        self.assertEqual(loads(("line", 4), [(0, 2), (0, 2), (2, 0)]), [3, 3, 0])
        self.assertEqual(load(("line", 4), [(0, 2), (0, 2), (2, 0)]), 3)
        self.assertEqual(loads(("ring", 4), [(3, 1), (3, 1), (1, 3)]), [2, 1, 1, 2])
        self.assertEqual(load(("ring", 4), [(3, 1), (3, 1), (1, 3)]), 2)
        self.assertEqual(loads(TREE, [(6, 4), (4, 6), (3, 1)]), [2, 2, 1, 2, 2, 2])
        self.assertEqual(load(TREE, [(6, 4), (4, 6), (3, 1)]), 2)

    def test_forty_ways(self):
        for net in NETS:
            for seed in range(3):
                ways = drawn_ways(net, 40, seed)
                counts = counted_loads(net, ways)
                self.assertEqual(loads(net, ways), counts, (net, ways))
                self.assertEqual(load(net, ways), max(counts), (net, ways))

    def test_more_than_forty_are_no_fault(self):
        self.assertEqual(loads(("line", 3), [(0, 1)] * 45), [45, 0])

    def test_each_single_way(self):
        for net in SMALL_NETS:
            for way in all_ways(net):
                self.assertEqual(loads(net, [way]), counted_loads(net, [way]))
                self.assertEqual(load(net, [way]), 1)

    def test_the_first_way_that_is_none(self):
        asked = (loads, load, lambda net, ways: clash(net, ways, []))
        for net in SMALL_NETS + GREAT_NETS[:2]:
            for way in wrong_ways(net):
                for at in (0, 1, 38):
                    ways = [(0, 1)] * at + [way] + [(places_of(net), 0), (1, 0)]
                    for told in asked:
                        with self.assertRaises(NoWay, msg=(net, ways)) as caught:
                            told(net, ways)
                        self.assertEqual(caught.exception.at, at)

    def test_a_last_way_that_is_none(self):
        with self.assertRaises(NoWay) as caught:
            loads(("ring", 3), [(0, 1)] * 39 + [(3, 0)])
        self.assertEqual(caught.exception.at, 39)
