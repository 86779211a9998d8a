"""Point 20: hues on a ring, ways as they lie."""

import itertools
import random
import unittest

from tests.samples import NETS, WRONG_NETS, all_ways, counted_loads, drawn_ways, first_clash, refusal, wrong_ways
from tiehues.rings import ring_hues

RINGS = [("ring", many) for many in (3, 4, 5, 6, 11, 60)]


def level_ways(many, walks, seed):
    """Ways that lie on each tie equally often: walks that come back to where they began."""
    drawn = random.Random(seed)
    ways = []
    for walk in range(walks):
        start = place = drawn.randrange(many)
        for step in range(drawn.randint(1, 6)):
            ahead = drawn.choice([other for other in range(many) if other != place])
            ways.append((place, ahead))
            place = ahead
        if place != start:
            ways.append((place, start))
    drawn.shuffle(ways)
    return ways


class RingHues(unittest.TestCase):
    def check(self, net, ways):
        hues = ring_hues(net, ways)
        self.assertIs(type(hues), list)
        self.assertTrue(all(type(hue) is int for hue in hues))
        self.assertIsNone(first_clash(net, ways, hues), (net, ways, hues))
        counts = counted_loads(net, ways)
        most, least = max(counts), min(counts)
        bound = most + least if least < most else 2 * most - 1
        self.assertTrue(all(hue < bound for hue in hues), (net, ways, hues))
        self.assertLess(len(set(hues)), 2 * most)
        return least == most

    def test_no_ways(self):
        for net in RINGS:
            self.assertEqual(ring_hues(net, []), [])

    def test_single_ways(self):
        for net in RINGS[:5]:
            for way in all_ways(net):
                self.assertEqual(ring_hues(net, [way]), [0])

    def test_all_small_ones(self):
        level = 0
        for many, count in ((3, 4), (4, 3), (5, 3)):
            for ways in itertools.product(all_ways(("ring", many)), repeat=count):
                level += self.check(("ring", many), list(ways))
        self.assertGreater(level, 20)

    def test_all_level_ones_of_five(self):
        seen = 0
        for ways in itertools.combinations_with_replacement(all_ways(("ring", 4)), 5):
            if len(set(counted_loads(("ring", 4), ways))) == 1:
                for order in (ways, ways[::-1], ways[2:] + ways[:2]):
                    self.assertTrue(self.check(("ring", 4), list(order)))
                seen += 1
        self.assertGreater(seen, 20)

    def test_once_round(self):
        for net in RINGS:
            many = min(net[1], 40)
            ways = [(k, k + 1) for k in range(many - 1)] + [(many - 1, 0)]
            self.assertTrue(self.check(net, ways))
            self.assertEqual(set(ring_hues(net, ways)), {0})
            self.assertEqual(set(ring_hues(net, ways[::-1])), {0})

    def test_all_round_but_one_tie(self):
        for net in RINGS:
            many = net[1]
            over = [((k + 1) % many, k) for k in range(many)]
            self.check(net, over[:40])
            self.check(net, over[:1] * 40)
            self.check(net, over[:2] * 20)
            self.check(net, (over[:1] + [(0, 1)]) * 20)
            self.check(net, (over[1:3] + [(1, 2), (2, 3 % many)]) * 10)

    def test_all_alike(self):
        for net in RINGS:
            for way in ((0, 1), (1, 0), (net[1] - 1, 1)):
                for many in (1, 2, 40):
                    self.check(net, [way] * many)
                    self.assertEqual(len(set(ring_hues(net, [way] * many))), many)

    def test_steps(self):
        for many in (5, 7, 12, 39, 40):
            for wide in (1, 2, many // 2, many // 2 + 1, many - 1):
                ways = [(k, (k + wide) % many) for k in range(many)]
                self.assertTrue(self.check(("ring", many), ways))
                self.assertTrue(self.check(("ring", many), ways[::-1]))
                self.assertTrue(self.check(("ring", many), ways[1::2] + ways[::2]))

    def test_level_ones(self):
        for many in (3, 4, 5, 8, 20, 60):
            for seed in range(60):
                ways = level_ways(many, 1 + seed % 6, seed)[:60]
                counts = counted_loads(("ring", many), ways)
                self.assertEqual(self.check(("ring", many), ways), len(set(counts)) == 1)

    def test_forty_ways(self):
        for net in RINGS:
            for seed in range(10):
                self.check(net, drawn_ways(net, 40, seed))

    def test_more_than_forty_are_no_fault(self):
        self.check(("ring", 3), [(0, 1), (1, 2), (0, 2)] * 15)


class Refusals(unittest.TestCase):
    def test_other_nets_go_ahead_of_ways(self):
        for net in NETS:
            if net[0] != "ring":
                for ways in ([], [(0, 1)], [(0, 0)], [(0, 1), (-1, 0)]):
                    self.assertEqual(refusal(ring_hues, net, ways), ("OtherNet",))

    def test_no_net_goes_ahead(self):
        for net in WRONG_NETS:
            for ways in ([], [(0, 0)]):
                self.assertEqual(refusal(ring_hues, net, ways), ("NoNet",))

    def test_the_first_way_that_is_none(self):
        for net in RINGS:
            for way in wrong_ways(net):
                for at in (0, 1, 38):
                    self.assertEqual(refusal(ring_hues, net, [(0, 1)] * at + [way, (0, 0), (1, 0)]), ("NoWay", at))
