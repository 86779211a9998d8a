"""Point 7: the fewest hues on a line; and of point 3, that they are the greatest load."""

import itertools
import unittest

from tests.samples import NETS, WRONG_NETS, all_ways, counted_loads, drawn_ways, first_clash, wrong_ways
from tiehues.errors import NoNet, NoWay, OtherNet
from tiehues.lines import line_hues
from tiehues.nets import used


class LineHues(unittest.TestCase):
    def check(self, net, ways):
        told = line_hues(net, ways)
        self.assertIsInstance(told, tuple)
        hues, tie = told
        counts = counted_loads(net, ways)
        self.assertIsInstance(hues, list)
        self.assertIsNone(first_clash(net, ways, hues), (net, ways, hues))
        self.assertTrue(all(0 <= hue < max(counts) for hue in hues), (net, ways, hues))
        self.assertEqual(used(hues), max(counts))
        self.assertIn(tie, range(len(counts)))
        self.assertEqual(counts[tie], max(counts), (net, ways, tie))

    def test_no_ways(self):
        for many in (2, 3, 60):
            self.assertEqual(line_hues(("line", many), []), ([], None))

    def test_single_ways(self):
        for many in (2, 3, 60):
            for way in all_ways(("line", many)):
                self.check(("line", many), [way])

    def test_all_small_ones(self):
        for many, count in ((2, 4), (3, 4), (4, 3)):
            for ways in itertools.product(all_ways(("line", many)), repeat=count):
                self.check(("line", many), list(ways))

    def test_all_alike(self):
        self.check(("line", 2), [(0, 1)] * 40)
        self.check(("line", 2), [(0, 1), (1, 0)] * 20)
        self.check(("line", 60), [(0, 59)] * 40)

    def test_nested(self):
        inward = [(k, 59 - k) for k in range(30)]
        self.check(("line", 60), inward)
        self.check(("line", 60), inward[::-1])
        self.check(("line", 60), [(0, k + 1) for k in range(40)])
        self.check(("line", 60), [(59, 58 - k) for k in range(40)])

    def test_end_to_end(self):
        ways = [(k, k + 1) for k in range(40)]
        self.check(("line", 60), ways)
        self.check(("line", 60), ways[::-1])
        self.assertEqual(line_hues(("line", 60), ways)[0], [0] * 40)

    def test_stepped(self):
        for wide in (2, 7, 19):
            self.check(("line", 60), [(k, k + wide) for k in range(40)])
            self.check(("line", 60), [(k * 7 % 40 + wide, k * 7 % 40) for k in range(40)])

    def test_forty_ways(self):
        for many in (2, 3, 5, 12, 60):
            for seed in range(12):
                self.check(("line", many), drawn_ways(("line", many), 40, seed))

    def test_more_than_forty_are_no_fault(self):
        self.check(("line", 3), [(0, 1), (0, 2)] * 22)


class Refusals(unittest.TestCase):
    def test_other_nets(self):
        for net in NETS:
            if net[0] != "line":
                for ways in ([], [(0, 1)], [(0, 0)], [(0, 1), (-1, 0)]):
                    with self.assertRaises(OtherNet, msg=net):
                        line_hues(net, ways)

    def test_no_net_goes_ahead(self):
        for net in WRONG_NETS:
            with self.assertRaises(NoNet, msg=net):
                line_hues(net, [(0, 0)])

    def test_the_first_way_that_is_none(self):
        for net in (("line", 2), ("line", 5), ("line", 60)):
            for way in wrong_ways(net):
                for at in (0, 1, 38):
                    with self.assertRaises(NoWay, msg=(net, way)) as caught:
                        line_hues(net, [(0, 1)] * at + [way, (0, 0), (1, 0)])
                    self.assertEqual(caught.exception.at, at)
