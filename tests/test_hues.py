"""Point 6: right hues, clashes, and how many hues are used."""

import itertools
import unittest

from tests.samples import HUGE, NETS, all_ways, drawn_ways, first_clash
from tiehues.errors import NoWay
from tiehues.nets import clash, used

LINE = ("line", 5)


class Clash(unittest.TestCase):
    def test_right_hues(self):
        self.assertIsNone(clash(LINE, [], []))
        self.assertIsNone(clash(LINE, [(0, 2), (2, 4)], [7, 7]))
        self.assertIsNone(clash(LINE, [(0, 3), (2, 4)], [0, 1]))
        self.assertIsNone(clash(LINE, [(0, 3), (2, 4)], [HUGE, HUGE + 1]))
        self.assertIsNone(clash(("ring", 4), [(0, 2), (2, 0)], [5, 5]))
        self.assertIsNone(clash(("tree", [0, 0, 0]), [(1, 0), (2, 3)], [0, 0]))

    def test_the_first_two_in_order(self):
        ways = [(0, 1), (1, 3), (2, 4), (0, 4)]
        self.assertEqual(clash(LINE, ways, [0, 1, 1, 0]), (0, 3))
        self.assertEqual(clash(LINE, ways, [2, 1, 1, 0]), (1, 2))
        self.assertEqual(clash(LINE, ways, [HUGE, 1, 0, HUGE]), (0, 3))
        self.assertEqual(clash(LINE, [(0, 4)] * 4, [0, 1, 1, 0]), (0, 3))
        self.assertEqual(clash(LINE, [(0, 4)] * 3, [0, 0, 0]), (0, 1))
        self.assertEqual(clash(("ring", 4), [(3, 1), (2, 0)], [0, 0]), (0, 1))
        self.assertEqual(clash(("tree", [0, 0, 0]), [(1, 2), (3, 2)], [4, 4]), (0, 1))

    def test_hues_below_0(self):
        ways = [(0, 4)] * 3
        self.assertEqual(clash(LINE, ways, [-1, 0, 1]), (0, 0))
        self.assertEqual(clash(LINE, ways, [0, 1, -1]), (2, 2))
        self.assertEqual(clash(LINE, ways, [0, -HUGE, 0]), (0, 2))
        self.assertEqual(clash(LINE, ways, [0, -1, -1]), (1, 1))
        self.assertEqual(clash(LINE, ways, [-1, -1, -1]), (0, 0))
        self.assertEqual(clash(LINE, ways, [1, 1, -1]), (0, 1))

    def test_more_or_fewer_numbers(self):
        self.assertEqual(clash(LINE, [], [0]), (-1, -1))
        self.assertEqual(clash(LINE, [(0, 1)], []), (-1, -1))
        self.assertEqual(clash(LINE, [(0, 1)] * 2, [-1]), (-1, -1))
        self.assertEqual(clash(LINE, [(0, 1)] * 2, [0, 0, 0]), (-1, -1))

    def test_a_way_that_is_none_goes_ahead(self):
        for hues in ([], [0, 0], [-1, 0], [0, 1, 2]):
            with self.assertRaises(NoWay) as caught:
                clash(LINE, [(0, 1), (5, 0)], hues)
            self.assertEqual(caught.exception.at, 1)

    def test_all_small_ones(self):
        for net in [("line", 3), ("ring", 3), ("tree", [0, 0])]:
            for ways in itertools.product(all_ways(net), repeat=3):
                for hues in [(0, 0, 0), (0, 1, 0), (1, 0, 0), (0, 0, 1), (2, 1, 0), (0, -1, 0), (0, 0, -1)]:
                    told = clash(net, list(ways), list(hues))
                    self.assertEqual(told, first_clash(net, ways, hues), (net, ways, hues))

    def test_forty_ways(self):
        for net in NETS:
            for seed in range(3):
                ways = drawn_ways(net, 40, seed)
                for hues in ([k * k % (seed + 38) for k in range(40)], list(range(40)), [k // 2 for k in range(40)]):
                    self.assertEqual(clash(net, ways, hues), first_clash(net, ways, hues))


class Used(unittest.TestCase):
    def test_used(self):
        self.assertEqual(used([]), 0)
        self.assertEqual(used([4]), 1)
        self.assertEqual(used([0, 0, 0]), 1)
        self.assertEqual(used([3, 1, 2]), 3)
        self.assertEqual(used([3, 1, 3, 1, -1]), 3)
        self.assertEqual(used([HUGE, HUGE + 1, HUGE, -HUGE]), 3)
        self.assertEqual(used(list(range(40)) * 2), 40)
