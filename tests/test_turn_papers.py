"""Point 23: turn papers, why no turning has so small a load."""

import itertools
import unittest

from tests.readings import bent, lightest, right_turn_paper
from tests.samples import HUGE, NETS, ODD_THINGS, WRONG_NETS, all_ways, drawn_ways, nested, refusal, wrong_ways
from tiehues.turning import least_load, turn_judged

RINGS = [("ring", many) for many in (3, 4, 5, 9)]
OTHERS = [net for net in NETS if net[0] != "ring"]
RING = ("ring", 4)
ACROSS = [(0, 2), (1, 3)]
ROWS = [
    (RING, [(0, 2), (1, 3), (0, 2)]), (("ring", 3), [(0, 1), (1, 2), (2, 0)]), (RING, ACROSS * 2),
    (("ring", 6), [(0, 3), (1, 4), (2, 5)]), (("ring", 6), [(0, 3), (1, 4), (2, 5), (0, 2)]),
]
# Rings, ways, and the greatest bound that no turning keeps.
HARD = [(net, ways, lightest(net, ways) - 1) for net, ways in ROWS]


def branching():
    """Drawn ways of which the paper names some, and the bound for which it is right."""
    for many in (4, 5, 6, 7, 9):
        for count in (4, 5, 6, 7):
            for seed in range(12):
                ways = drawn_ways(("ring", many), count, seed)
                heaviest, turning, paper = least_load(("ring", many), ways)
                if paper[0] != "ties":
                    yield ("ring", many), ways, heaviest - 1, paper


class Judged(unittest.TestCase):
    def check(self, net, ways, m, paper, told=None):
        found = turn_judged(net, ways, m, paper)
        self.assertIs(found, right_turn_paper(net, ways, m, paper), (net, ways, m, paper))
        if told is not None:
            self.assertIs(found, told, (net, ways, m, paper))

    def test_by_hand(self):
        # Ties 0 and 2 part both ways: their loads come to 2, whatever the turning.
        self.check(RING, ACROSS, 0, ("ties", 0, 2), True)
        self.check(RING, ACROSS, 0, ("ties", 2, 0), True)
        self.check(RING, ACROSS, 1, ("ties", 0, 2), False)
        self.check(RING, ACROSS, 0, ("ties", 0, 1), True)
        self.check(RING, ACROSS, 0, ("ties", 0, 0), False)
        self.check(RING, ACROSS + [(0, 2)], 1, ("ties", 0, 2), True)
        self.check(RING, [(0, 1)], 0, ("ties", 0, 3), True)
        self.check(RING, [(0, 1)], 0, ("ties", 2, 3), False)
        self.check(RING, [(0, 1)], 0, (0, ("ties", 0, 0), ("ties", 3, 3)), True)
        self.check(RING, [(0, 1)], 0, (0, ("ties", 3, 3), ("ties", 0, 0)), False)
        self.check(RING, [(0, 1)], 0, (0, ("ties", 0, 2), ("ties", 1, 2)), True)

    def test_settled_ways_count_for_both_ties(self):
        ways = [(0, 2), (0, 2)]
        # Both as they lie: load 2 on tie 0. One of them turned: 1 on each.
        turned_first = (1, ("ties", 0, 2), ("ties", 2, 3))
        self.check(RING, ways, 1, (0, (1, ("ties", 0, 0), ("ties", 0, 2)), turned_first), False)
        self.check(RING, ways, 0, (0, (1, ("ties", 0, 0), ("ties", 0, 2)), turned_first), True)
        self.check(RING, ways, 0, (0, (1, ("ties", 0, 1), ("ties", 0, 0)), (1, ("ties", 1, 1), ("ties", 3, 3))), True)
        self.check(RING, ways, 0, (0, (1, ("ties", 3, 3), ("ties", 0, 0)), (1, ("ties", 1, 1), ("ties", 3, 3))), False)

    def test_no_ways(self):
        for net in RINGS:
            for m in (0, 1, 12):
                for paper in [("ties", 0, 1), ("ties", 0, 0), (0, ("ties", 0, 1), ("ties", 0, 1))] + ODD_THINGS:
                    self.check(net, [], m, paper, False)

    def test_all_small_papers(self):
        for many, count in ((3, 2), (4, 2)):
            net = ("ring", many)
            leaves = [("ties", e, f) for e in range(-1, many + 1) for f in range(-1, many + 1)]
            some = leaves[many + 3:] + [(k, leaves[9], leaves[8]) for k in (-1, 0, 1, 2)]
            for ways in itertools.product(all_ways(net)[:5], repeat=count):
                for m in (0, 1):
                    for paper in leaves:
                        self.check(net, list(ways), m, paper)
                    for paper in itertools.product((0, 1, 2), some[:9], some[-9:]):
                        self.check(net, list(ways), m, paper)

    def test_each_thing_bent(self):
        cases = [(net, ways, m, least_load(net, ways)[2]) for net, ways, m in HARD]
        for net, ways, m, paper in cases + list(branching())[:12]:
            found = set()
            for other in bent(paper):
                self.check(net, ways, m, other)
                found.add(turn_judged(net, ways, m, other))
            self.assertIn(False, found)

    def test_ways_are_settled_once(self):
        seen = 0
        for net, ways, m, paper in branching():
            k, one, other = paper
            self.check(net, ways, m, paper, True)
            self.check(net, ways, m, (k, paper, other), False)
            self.check(net, ways, m, (k, one, paper), False)
            self.check(net, ways, m, (-1, one, other), False)
            self.check(net, ways, m, (len(ways), one, other), False)
            self.check(net, ways, m, (HUGE, one, other), False)
            seen += 1
        self.assertGreater(seen, 5)

    def test_other_bounds(self):
        for net, ways, m, paper in branching():
            for bound in range(13):
                self.check(net, ways, bound, paper, False if bound > m else None)
            self.check(net, ways, HUGE, paper, False)

    def test_ties_that_are_not_there(self):
        for tie in (-1, -2, 4, 5, HUGE, -HUGE, True, False, None, "0", [0], (0,)):
            self.check(RING, ACROSS, 0, ("ties", 0, tie), False)
            self.check(RING, ACROSS, 0, ("ties", tie, 0), False)
            self.check(RING, ACROSS, 0, ("ties", tie, tie), False)

    def test_truths_are_no_numbers(self):
        right = (0, ("ties", 0, 0), ("ties", 3, 3))
        self.check(RING, [(0, 1)], 0, right, True)
        self.check(RING, [(0, 1)], 0, (False,) + right[1:], False)
        self.check(RING, [(0, 1)], 0, (0, ("ties", False, 0), ("ties", 3, 3)), False)

    def test_other_kinds(self):
        things = ODD_THINGS + [nested(tuple, 30, ("ties", 0, 1)), ("ties", 0, 1) * 9]
        for net, ways, m in HARD + [(RING, ACROSS, 0)]:
            leaf = ("ties", 0, 2)
            for thing in things:
                for paper in (thing, (thing, leaf, leaf), (0, thing, leaf), (0, leaf, thing), (0, leaf, leaf, thing),
                              ("ties", thing, 0), ("ties", 0, thing), (0, (1, thing, leaf), leaf),
                              (thing, thing, thing)):
                    self.check(net, ways, m, paper)

    def test_deep_papers(self):
        paper = ("ties", 0, 0)
        for turn in range(40):
            paper = (turn, paper, ("ties", 0, 2))
        self.check(RING, ACROSS, 0, paper, False)
        paper = ("ties", 0, 0)
        for turn in range(29):
            paper = (0, paper, ("ties", 0, 2))
        self.check(RING, ACROSS, 0, paper, False)

    def test_what_is_let_by_is_right(self):
        for net in RINGS[:3]:
            for ways in itertools.product(all_ways(net)[::2], repeat=3):
                least = lightest(net, ways)
                for e, f in itertools.product(range(net[1]), repeat=2):
                    for m in range(3):
                        if turn_judged(net, list(ways), m, ("ties", e, f)):
                            self.assertGreater(least, m)

    def test_fourteen_ways(self):
        for seed in range(4):
            ways = drawn_ways(("ring", 20), 14, seed)
            heaviest, turning, paper = least_load(("ring", 20), ways)
            self.check(("ring", 20), ways, heaviest - 1, paper, True)
            self.check(("ring", 20), ways, heaviest, paper, False)


class Refusals(unittest.TestCase):
    papers = (None, (), ("ties", 0, 0), (0, 0, 0), 5)

    def asked(self, net, ways, m):
        told = {refusal(turn_judged, net, ways, m, paper) for paper in self.papers}
        self.assertEqual(len(told), 1)
        return told.pop()

    def test_nets(self):
        for ways in ([], [(0, 1)], [(0, 0)], [(0, 1)] * 15):
            for m in (-1, 0, 3):
                for net in OTHERS:
                    self.assertEqual(self.asked(net, ways, m), ("OtherNet",))
                for net in WRONG_NETS:
                    self.assertEqual(self.asked(net, ways, m), ("NoNet",))

    def test_ways(self):
        for net in RINGS:
            for way in wrong_ways(net):
                for at in (0, 1, 13, 14, 38):
                    for m in (-1, 2):
                        self.assertEqual(self.asked(net, [(0, 1)] * at + [way, (0, 0)], m), ("NoWay", at))

    def test_too_many(self):
        for net in RINGS + [("ring", 60)]:
            for many in (15, 16, 40):
                for m in (-1, -HUGE, 0, 12):
                    self.assertEqual(self.asked(net, [(0, 1)] * many, m), ("TooMany",))
            self.assertIsNone(self.asked(net, [(0, 1)] * 14, 3))

    def test_no_number(self):
        for net in RINGS + [("ring", 60)]:
            for ways in ([], [(0, 1)], [(0, 1)] * 14):
                for m in (-1, -2, -HUGE):
                    self.assertEqual(self.asked(net, ways, m), ("NoNumber",))
                for m in (0, 12, 13, 40):
                    self.assertIsNone(self.asked(net, ways, m))
