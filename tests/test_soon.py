"""Of point 2: what is asked is told soon, also where it can't be done with fewer."""

import itertools
import time
import unittest

from tests.samples import ODD_THINGS, drawn_ways
from tiehues.both import turned_hues, turned_judged
from tiehues.cases import case_judged, case_of
from tiehues.desk import Desk
from tiehues.fewest import fewest, fewest_judged
from tiehues.papers import told_of, told_words
from tiehues.rings import ring_hues
from tiehues.turning import least_load, short_turning, turn_judged

# Seconds for what takes a small part of one: a search that does not cut off what can't be takes far longer.
SOON = 5
FIVE = ("tree", [0, 0, 0, 0, 0])
SIDES = [(1, 2), (2, 3), (3, 4), (4, 5), (5, 1)]
# Trees on which cases grow long.
LONG = [
    (("tree", [0, 1, 0, 3, 1, 0, 2, 2, 3, 9]),
     [(1, 7), (3, 1), (2, 7), (8, 7), (6, 4), (10, 2), (7, 5), (1, 6), (1, 9), (1, 9), (3, 8), (7, 2)]),
    (("tree", [0, 1, 2, 3, 0, 1, 4, 3]),
     [(7, 1), (2, 0), (6, 0), (7, 8), (8, 7), (6, 7), (8, 2), (1, 5), (7, 2), (6, 5), (1, 2), (6, 1)]),
    (("tree", [0] * 12),
     [(7, 5), (1, 11), (1, 2), (8, 12), (4, 12), (9, 2), (10, 5), (12, 8), (5, 3), (7, 2), (4, 8), (10, 6)]),
    (FIVE, SIDES * 2), (FIVE, SIDES * 2 + SIDES[:1] + SIDES[2:3]), (FIVE, list(itertools.combinations(range(1, 6), 2))),
]


class Soon(unittest.TestCase):
    def soon(self, function, *things):
        began = time.perf_counter()
        told = function(*things)
        self.assertLess(time.perf_counter() - began, SOON, (function.__name__, things))
        return told

    def check(self, net, ways):
        told = self.soon(fewest, net, ways)
        self.assertIsNone(self.soon(fewest_judged, net, ways, told))

    def test_twelve_ways(self):
        for net, ways in LONG:
            self.check(net, ways)
        for many in (5, 7, 12, 24, 60):
            for seed in range(6):
                self.check(("ring", many), drawn_ways(("ring", many), 12, seed))
        for many in (12, 13, 25, 60):
            for wide in range(1, many, 3):
                self.check(("ring", many), [(5 * k % many, (5 * k + wide) % many) for k in range(12)])

    def test_cases_of_eight_ways(self):
        for many in (8, 9, 17, 60):
            for wide in range(1, many, 2):
                ways = [(3 * k % many, (3 * k + wide) % many) for k in range(8)]
                for h in range(13):
                    case = self.soon(case_of, ("ring", many), ways, h)
                    self.assertEqual(self.soon(case_judged, ("ring", many), ways, h, case), case is not None)

    def test_turnings(self):
        for many in (4, 9, 20, 60):
            half = many // 2
            for count in (9, 14):
                for ways in ([(k % many, (k + half) % many) for k in range(count)], [(0, half)] * count,
                             [(k % half, k % half + half) for k in range(count)], drawn_ways(("ring", many), count, 1)):
                    heaviest, turning, paper = self.soon(least_load, ("ring", many), ways)
                    self.assertIs(self.soon(turn_judged, ("ring", many), ways, heaviest - 1, paper), True)

    def test_turned_and_hued(self):
        for many in (3, 5, 8, 10):
            half = many // 2
            for ways in ([(k % many, (k + half) % many) for k in range(6)], [(0, half)] * 6, [(0, 1), (1, 0)] * 3,
                         [(k % half, k % half + half) for k in range(6)], drawn_ways(("ring", many), 6, 1)):
                told = self.soon(turned_hues, ("ring", many), ways)
                self.assertIsNone(self.soon(turned_judged, ("ring", many), ways, told))

    def test_seven_ways(self):
        for many in (7, 10, 14, 60):
            half = many // 2
            for ways in ([(k % many, (k + half) % many) for k in range(7)], drawn_ways(("ring", many), 7, 2)):
                self.soon(turned_hues, ("ring", many), ways)

    def test_words(self):
        for net, ways in LONG:
            told = fewest(net, ways)
            case = case_of(net, ways, told[0] - 1)
            for thing in (told, told[:2] + (("case", case),)):
                self.assertEqual(self.soon(told_of, self.soon(told_words, thing)), thing)
        for thing in (told, (0, list(range(4990)), ("none",)), (0, [], ("case", (0, [()] * 4990)))):
            self.assertEqual(self.soon(told_of, self.soon(told_words, thing)), thing)

    def test_a_desk(self):
        desk = Desk()
        for row in ["line a 60"] + ["way a 0 59", "way a 59 0"] * 20 + ["back a"] * 40 + ["way a 0 59"] * 12:
            self.soon(desk.say, row)
        for row in ("fewest a", "best a", "given a", "load a", "show a", "names"):
            self.soon(desk.say, row)

    def test_forty_ways(self):
        for many in (3, 20, 60):
            ways = drawn_ways(("ring", many), 40, 1)
            self.soon(ring_hues, ("ring", many), ways)
            self.soon(short_turning, ("ring", many), ways)

    def test_odd_things(self):
        ways = drawn_ways(("ring", 60), 12, 2)
        for thing in ODD_THINGS:
            for h in (0, 1, 12):
                self.soon(case_judged, ("ring", 60), ways, h, thing)
                self.soon(turn_judged, ("ring", 60), ways, h, thing)
            self.soon(fewest_judged, ("ring", 60), ways, (12, list(range(12)), thing))
