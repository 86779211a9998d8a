"""Point 4: nets, and what is none."""

import unittest

from tests.samples import NETS, WRONG_NETS
from tiehues.errors import NoNet
from tiehues.givers import Giver, shows
from tiehues.lines import line_hues
from tiehues.nets import clash, load, loads, look_net, ties_of
from tiehues.trees import crossing_at, join_hues, tree_hues

ASKING = {
    "ties_of": lambda net: ties_of(net, (0, 1)),
    "ties_of of no way": lambda net: ties_of(net, (0, 0)),
    "loads": lambda net: loads(net, [(0, 1)]),
    "loads of none": lambda net: loads(net, []),
    "loads of no way": lambda net: loads(net, [(0, 1), (-1, 0)]),
    "load": lambda net: load(net, [(0, 1)]),
    "load of none": lambda net: load(net, []),
    "load of no way": lambda net: load(net, [(3, 3)]),
    "clash": lambda net: clash(net, [(0, 1)], [0]),
    "clash of none": lambda net: clash(net, [], []),
    "clash of no way": lambda net: clash(net, [(0, 1), (1, 1)], [0, 0]),
    "clash of other counts": lambda net: clash(net, [(0, 1)], []),
    "line_hues": lambda net: line_hues(net, [(0, 1)]),
    "line_hues of none": lambda net: line_hues(net, []),
    "line_hues of no way": lambda net: line_hues(net, [(0, 0)]),
    "Giver": Giver,
    "shows": lambda net: shows(net, [(0, 1)], [(1, 0, 0)]),
    "shows of no way": lambda net: shows(net, [(0, 0)], []),
    "crossing_at": lambda net: crossing_at(net, [(0, 1)], 0),
    "crossing_at of no way": lambda net: crossing_at(net, [(0, 0)], 0),
    "crossing_at of no place": lambda net: crossing_at(net, [], -1),
    "tree_hues": lambda net: tree_hues(net, [(0, 1)]),
    "tree_hues of no way": lambda net: tree_hues(net, [(0, 0)]),
    "join_hues": lambda net: join_hues(net, [(0, 1)], [[0], [0]]),
    "join_hues of no way": lambda net: join_hues(net, [(0, 0)], [[0], [0]]),
    "join_hues of no hues": lambda net: join_hues(net, [(0, 1)], []),
}


class LookNet(unittest.TestCase):
    def test_nets(self):
        for net in NETS:
            self.assertIsNone(look_net(net), net)

    def test_each_size(self):
        for many in range(2, 61):
            self.assertIsNone(look_net(("line", many)))
        for many in range(3, 61):
            self.assertIsNone(look_net(("ring", many)))
        for many in range(1, 60):
            self.assertIsNone(look_net(("tree", [0] * many)))
            self.assertIsNone(look_net(("tree", list(range(many)))))

    def test_each_parent(self):
        for place in range(1, 60):
            ahead = [0] * (place - 1)
            for parent in range(-2, 62):
                net = ("tree", ahead + [parent])
                if 0 <= parent < place:
                    self.assertIsNone(look_net(net), net)
                else:
                    self.assertRaises(NoNet, look_net, net)

    def test_a_wrong_parent_anywhere(self):
        for at in range(59):
            for wrong in (-1, at + 1, at + 2):
                parents = list(range(59))
                parents[at] = wrong
                self.assertRaises(NoNet, look_net, ("tree", parents))

    def test_no_nets(self):
        for net in WRONG_NETS:
            with self.assertRaises(NoNet, msg=net):
                look_net(net)


class NoNetAheadOfAllElse(unittest.TestCase):
    def test_each_function(self):
        for name, asked in ASKING.items():
            for net in WRONG_NETS:
                with self.assertRaises(NoNet, msg=(name, net)):
                    asked(net)
