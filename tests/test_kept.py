"""Point 2: what is handed in is kept, and what is told is the asker's own."""

import copy
import unittest

from tests.samples import NETS, drawn_ways
from tiehues.errors import TieError
from tiehues.lines import line_hues
from tiehues.nets import clash, load, loads, look_net, ties_of, used

ASKED = {
    "look_net": lambda net, ways, hues: look_net(net),
    "ties_of": lambda net, ways, hues: ties_of(net, ways[0]),
    "loads": lambda net, ways, hues: loads(net, ways),
    "load": lambda net, ways, hues: load(net, ways),
    "clash": lambda net, ways, hues: clash(net, ways, hues),
    "used": lambda net, ways, hues: used(hues),
    "line_hues": lambda net, ways, hues: line_hues(net, ways),
}


def samples():
    for net in NETS:
        ways = drawn_ways(net, 12, 5)
        yield net, ways, list(range(12))
        yield net, ways, [3, -1, 3]
        yield net, ways + [(0, 0)], [5] * 13
    yield ("tree", [0, 2, 1]), [(1, 0)], [2]


def answer(asked, things):
    try:
        return asked(*things)
    except TieError as refused:
        return refused.__class__, getattr(refused, "at", None)


def spoil(told):
    if isinstance(told, tuple):
        for part in told:
            spoil(part)
    elif isinstance(told, list):
        told.reverse()
        told.append(99)


class Kept(unittest.TestCase):
    def test_nothing_handed_in_is_changed(self):
        for name, asked in ASKED.items():
            for things in samples():
                before = copy.deepcopy(things)
                answer(asked, things)
                self.assertEqual(things, before, name)

    def test_told_lists_are_the_askers_own(self):
        for name, asked in ASKED.items():
            for things in samples():
                before = copy.deepcopy(things)
                told = answer(asked, things)
                first = copy.deepcopy(told)
                spoil(told)
                self.assertEqual(things, before, name)
                self.assertEqual(answer(asked, things), first, name)

    def test_changed_behind(self):
        parents, ways = [0, 0, 1], [(3, 2), (0, 1)]
        told = loads(("tree", parents), ways)
        hues, tie = line_hues(("line", 4), ways)
        parents[2] = 2
        ways.append((0, 2))
        ways[0] = (1, 0)
        self.assertEqual(told, [2, 1, 1])
        self.assertEqual(len(hues), 2)
        self.assertIn(tie, (0, 2))

    def test_the_same_each_time(self):
        for name, asked in ASKED.items():
            for things in samples():
                told = [answer(asked, copy.deepcopy(things)) for turn in range(3)]
                self.assertEqual(told[1:], told[:1] * 2, name)
