"""Points 22 and 24: turned ways, ties that part ways, the least load and short turnings."""

import itertools
import unittest

from tests.readings import lightest, right_turn_paper
from tests.samples import (
    HUGE, NETS, WRONG_NETS, all_ways, counted_loads, drawn_ways, refusal, walked_ties, wrong_ways,
)
from tiehues.turning import least_load, parted, short_turning, turn_judged, turned

RINGS = [("ring", many) for many in (3, 4, 5, 8, 60)]
OTHERS = [net for net in NETS if net[0] != "ring"]
RING = ("ring", 6)
WAYS = [(0, 2), (5, 1), (3, 4)]


class Turned(unittest.TestCase):
    def test_by_hand(self):
        self.assertEqual(turned(RING, WAYS, [0, 0, 0]), WAYS)
        self.assertEqual(turned(RING, WAYS, [1, 0, 1]), [(2, 0), (5, 1), (4, 3)])
        self.assertEqual(turned(RING, WAYS, [1, 1, 1]), [(2, 0), (1, 5), (4, 3)])
        self.assertEqual(turned(RING, [], []), [])

    def test_each_turning(self):
        for net in RINGS:
            ways = drawn_ways(net, 5, 1)
            for turning in itertools.product((0, 1), repeat=5):
                told = turned(net, ways, list(turning))
                self.assertEqual(told, [way[::-1] if turn else way for way, turn in zip(ways, turning)])
                self.assertEqual([type(way) for way in told], [tuple] * 5)

    def test_the_other_ties(self):
        for net in RINGS:
            whole = list(range(net[1]))
            for way in all_ways(net)[:200]:
                other = turned(net, [way], [1])[0]
                self.assertEqual(sorted(walked_ties(net, way) + walked_ties(net, other)), whole)

    def test_a_new_list(self):
        for turning in ([0, 0, 0], [1, 1, 0]):
            ways = list(WAYS)
            told = turned(RING, ways, turning)
            self.assertIsNot(told, ways)
            told.append(None)
            self.assertEqual((ways, len(turning)), (WAYS, 3))

    def test_forty_ways(self):
        ways = drawn_ways(("ring", 60), 40, 2)
        self.assertEqual(turned(("ring", 60), ways, [1] * 40), [(b, a) for a, b in ways])
        self.assertEqual(refusal(turned, ("ring", 60), ways, [1] * 41), ("NoTurning",))

    def test_no_turning(self):
        wrong = [
            [], [0], [0, 0], [0, 0, 0, 0], [0, 0, 2], [0, -1, 0], [HUGE, 0, 0], [0, -HUGE, 1], [True, 0, 0],
            [0, False, 1], [0, 1, True], [None, 0, 0], ["0", 0, 0], [[0], 0, 0], [0, 0, (0,)],
        ]
        for turning in wrong:
            self.assertEqual(refusal(turned, RING, WAYS, turning), ("NoTurning",), turning)
        for turning in ([0], [1], [2], [True]):
            self.assertEqual(refusal(turned, RING, [], turning), ("NoTurning",))

    def test_order_of_refusals(self):
        for turning in ([], [0], [2, 2]):
            for way in wrong_ways(RING):
                for at in (0, 1, 38):
                    self.assertEqual(refusal(turned, RING, [(0, 1)] * at + [way, (0, 0)], turning), ("NoWay", at))
            for ways in ([], [(0, 1)], [(0, 0)]):
                for net in OTHERS:
                    self.assertEqual(refusal(turned, net, ways, turning), ("OtherNet",))
                for net in WRONG_NETS:
                    self.assertEqual(refusal(turned, net, ways, turning), ("NoNet",))


class Parted(unittest.TestCase):
    def test_by_hand(self):
        # Their ties are 0 1, 5 0 and 3.
        self.assertEqual(parted(RING, WAYS, 0, 1), [1])
        self.assertEqual(parted(RING, WAYS, 1, 0), [1])
        self.assertEqual(parted(RING, WAYS, 1, 5), [0, 1])
        self.assertEqual(parted(RING, WAYS, 3, 0), [0, 1, 2])
        self.assertEqual(parted(RING, WAYS, 2, 4), [])

    def test_one_tie_parts_none(self):
        for net in RINGS:
            for tie in range(net[1]):
                self.assertEqual(parted(net, drawn_ways(net, 9, 3), tie, tie), [])
                self.assertEqual(parted(net, [], tie, 0), [])

    def test_all_pairs(self):
        for net in RINGS[:4]:
            ways = drawn_ways(net, 12, 4)
            rows = [walked_ties(net, way) for way in ways]
            for e, f in itertools.product(range(net[1]), repeat=2):
                told = parted(net, ways, e, f)
                self.assertEqual(told, [k for k, row in enumerate(rows) if (e in row) + (f in row) == 1])
                # The turned ways are parted, too.
                self.assertEqual(parted(net, turned(net, ways, [1] * 12), e, f), told)

    def test_forty_ways(self):
        ways = [(0, 30)] * 40
        self.assertEqual(parted(("ring", 60), ways, 29, 30), list(range(40)))
        self.assertEqual(parted(("ring", 60), ways, 59, 30), [])

    def test_no_tie(self):
        for net in RINGS:
            many = net[1]
            for ways in ([], [(0, 1)]):
                for tie in (-1, -many, many, many + 1, HUGE, -HUGE):
                    self.assertEqual(refusal(parted, net, ways, tie, 0), ("NoTie",))
                    self.assertEqual(refusal(parted, net, ways, 0, tie), ("NoTie",))
                    self.assertEqual(refusal(parted, net, ways, tie, tie), ("NoTie",))
                self.assertIsNone(refusal(parted, net, ways, 0, many - 1))

    def test_order_of_refusals(self):
        for e, f in ((0, 1), (-1, 0), (0, 6), (HUGE, HUGE)):
            for way in wrong_ways(RING):
                for at in (0, 1, 38):
                    self.assertEqual(refusal(parted, RING, [(0, 1)] * at + [way, (0, 0)], e, f), ("NoWay", at))
            for ways in ([], [(0, 1)], [(0, 0)]):
                for net in OTHERS:
                    self.assertEqual(refusal(parted, net, ways, e, f), ("OtherNet",))
                for net in WRONG_NETS:
                    self.assertEqual(refusal(parted, net, ways, e, f), ("NoNet",))


class LeastLoad(unittest.TestCase):
    def check(self, net, ways):
        told = least_load(net, ways)
        self.check_told(net, ways, told)
        self.assertEqual(told[0], lightest(net, ways), (net, ways))
        return told[2][0] if ways else None

    def check_told(self, net, ways, told):
        self.assertIs(type(told), tuple)
        heaviest, turning, paper = told
        self.assertEqual([type(part) for part in (heaviest, turning)], [int, list])
        self.assertTrue(all(type(turn) is int and turn in (0, 1) for turn in turning))
        self.assertEqual(max(counted_loads(net, turned(net, ways, turning))), heaviest)
        if ways:
            self.assertTrue(right_turn_paper(net, ways, heaviest - 1, paper), (net, ways, paper))
            self.assertIs(turn_judged(net, ways, heaviest - 1, paper), True)

    def test_no_ways(self):
        for net in RINGS:
            self.assertEqual(least_load(net, []), (0, [], None))

    def test_single_ways(self):
        for net in RINGS[:4]:
            for way in all_ways(net):
                self.assertEqual(least_load(net, [way])[0], 1)
                self.check(net, [way])

    def test_all_small_ones(self):
        for many, count in ((3, 4), (4, 3), (5, 3)):
            for ways in itertools.product(all_ways(("ring", many)), repeat=count):
                self.check(("ring", many), list(ways))

    def test_drawn_ones(self):
        firsts = []
        for many in (3, 4, 5, 6, 7, 9, 20):
            for count in (5, 7, 9):
                for seed in range(8 if many < 9 else 3):
                    firsts.append(self.check(("ring", many), drawn_ways(("ring", many), count, seed)))
        self.assertIn("ties", firsts)
        self.assertGreater(len([first for first in firsts if first != "ties"]), 3)

    def test_ways_to_the_other_side(self):
        for many in (4, 6, 8, 20):
            half = many // 2
            self.check(("ring", many), [(k % many, (k + half) % many) for k in range(9)])
            self.check(("ring", many), [(k % half, k % half + half) for k in range(9)])
            self.check(("ring", many), [(0, half)] * 9)

    def test_alike(self):
        for many in (1, 2, 5, 9):
            for net in RINGS[:4]:
                self.assertEqual(least_load(net, [(0, 1)] * many)[0], (many + 1) // 2)
                self.assertEqual(least_load(net, [(0, 2), (2, 0)] * many if many < 5 else [(0, 2)] * many)[0],
                                 many if many < 5 else (many + 1) // 2)

    def test_fourteen_ways(self):
        for many in (3, 8, 20, 60):
            for seed in range(4):
                ways = drawn_ways(("ring", many), 14, seed)
                self.check_told(("ring", many), ways, least_load(("ring", many), ways))

    def test_short_turnings_are_at_most_twice_as_heavy(self):
        for many in (3, 4, 7, 12):
            for seed in range(10):
                ways = drawn_ways(("ring", many), 8, seed)
                short = turned(("ring", many), ways, short_turning(("ring", many), ways))
                self.assertLessEqual(max(counted_loads(("ring", many), short)), 2 * least_load(("ring", many), ways)[0])


class ShortTurning(unittest.TestCase):
    def test_by_hand(self):
        self.assertEqual(short_turning(RING, [(0, 1), (0, 2), (0, 3), (0, 4), (0, 5)]), [0, 0, 0, 1, 1])
        self.assertEqual(short_turning(RING, [(3, 0), (4, 0), (5, 0), (1, 0), (2, 0)]), [0, 0, 0, 1, 1])
        self.assertEqual(short_turning(("ring", 5), [(0, 2), (0, 3), (2, 0), (3, 0)]), [0, 1, 1, 0])
        self.assertEqual(short_turning(("ring", 3), [(0, 1), (1, 0)]), [0, 1])
        self.assertEqual(short_turning(RING, []), [])

    def test_all_ways(self):
        for net in RINGS:
            ways = all_ways(net)
            for start in range(0, min(len(ways), 400), 40):
                some = ways[start:start + 40]
                told = short_turning(net, some)
                self.assertEqual([type(turn) for turn in told], [int] * len(some))
                for way, turn in zip(some, told):
                    self.assertEqual(turn, int(2 * len(walked_ties(net, way)) > net[1]))
                for way in turned(net, some, told):
                    self.assertLessEqual(2 * len(walked_ties(net, way)), net[1])


class Refusals(unittest.TestCase):
    def test_nets_and_ways(self):
        for asked in (least_load, short_turning):
            for ways in ([], [(0, 1)], [(0, 0)], [(0, 1)] * 15):
                for net in OTHERS:
                    self.assertEqual(refusal(asked, net, ways), ("OtherNet",))
                for net in WRONG_NETS:
                    self.assertEqual(refusal(asked, net, ways), ("NoNet",))
            for net in RINGS:
                for way in wrong_ways(net):
                    for at in (0, 1, 13, 14, 38):
                        self.assertEqual(refusal(asked, net, [(0, 1)] * at + [way, (0, 0)]), ("NoWay", at))

    def test_too_many(self):
        for net in RINGS:
            for many in (15, 16, 40):
                self.assertEqual(refusal(least_load, net, [(0, 1)] * many), ("TooMany",))
                self.assertEqual(short_turning(net, [(0, 1)] * many), [0] * many)
            self.assertIsNone(refusal(least_load, net, [(0, 1)] * 14))
