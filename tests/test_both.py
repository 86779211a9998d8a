"""Point 25: ways on a ring, turned and hued at once, and the judge of what shows the fewest hues."""

import itertools
import unittest

from tests.readings import bent, fewest_turned, is_case, judged_turned, right_turn_paper, turned_rows
from tests.samples import HUGE, NETS, ODD_THINGS, RING, ROUND, WRONG_NETS, all_ways, drawn_ways, refusal, wrong_ways
from tiehues.both import turned_hues, turned_judged
from tiehues.turning import least_load

RINGS = [("ring", many) for many in (3, 4, 5, 10)]
OTHERS = [net for net in NETS if net[0] != "ring"]
FOUR = ("ring", 4)
ACROSS = [(0, 2), (1, 3)]
# Rings with ways that need more hues than the least load.
BEYOND = [
    (RING, ROUND), (RING, [(1, 3), (2, 4), (4, 1), (3, 0), (2, 0)]), (("ring", 7), [(0, 4), (2, 5), (6, 3), (1, 0)]),
    (("ring", 7), [(4, 6), (0, 3), (1, 4), (2, 6), (2, 3), (0, 1)]), (("ring", 6), [(0, 3), (1, 4), (2, 5)]),
    (("ring", 8), [(2, 5), (6, 7), (2, 3), (6, 3), (7, 4)]), (("ring", 9), [(0, 6), (4, 0), (7, 4), (1, 8), (5, 1)]),
    (("ring", 10), [(4, 9), (9, 1), (3, 8), (2, 7)]), (("ring", 10), [(8, 6), (7, 8), (8, 2), (1, 5), (0, 4), (9, 3)]),
    (("ring", 10), [(7, 4), (2, 5), (0, 5), (3, 6), (2, 5), (1, 0)]), (("ring", 10), [(k, k + 5) for k in range(5)]),
    (("ring", 10), [(k, k + 5) for k in range(5)] + [(5, 0)]),
]


def first_case(lays, h, given=()):
    """A right case for h hues that takes the ways in order; None where h hues are enough."""
    k = len(given)
    if k == len(lays):
        return None
    many = min(h - 1, len({hue for number, ties, hue in given})) + 1
    children = []
    for ties, hue in [(ties, hue) for ties in lays[k] for hue in range(many)]:
        stuck = any(hue == other and ties & row for number, row, other in given)
        child = () if stuck else first_case(lays, h, given + ((k, ties, hue),))
        if child is None:
            return None
        children.append(child)
    return (k, children)


class TurnedHues(unittest.TestCase):
    def check(self, net, ways):
        told = turned_hues(net, ways)
        self.assertIs(type(told), tuple)
        self.assertEqual(told[0], fewest_turned(net, ways), (net, ways))
        self.assertIsNone(judged_turned(net, ways, told), (net, ways, told))
        self.assertIsNone(turned_judged(net, ways, told), (net, ways, told))
        return told[3][0]

    def test_no_ways(self):
        for net in RINGS:
            self.assertEqual(turned_hues(net, []), (0, [], [], ("none",)))

    def test_single_ways(self):
        for net in RINGS:
            for way in all_ways(net):
                self.assertEqual(turned_hues(net, [way])[0], 1)
                self.check(net, [way])

    def test_all_small_ones(self):
        for many, count in ((3, 3), (4, 3), (3, 4)):
            for ways in itertools.product(all_ways(("ring", many)), repeat=count):
                self.check(("ring", many), list(ways))

    def test_drawn_ones(self):
        for many in (4, 5, 6, 8, 10):
            for count in (4, 5, 6):
                for seed in range(12 if count < 6 else 4):
                    self.check(("ring", many), drawn_ways(("ring", many), count, seed))

    def test_by_hand(self):
        self.assertEqual(turned_hues(FOUR, ACROSS)[0], 2)
        self.assertEqual(turned_hues(FOUR, [(0, 2), (0, 2)])[0], 1)
        self.assertEqual(turned_hues(FOUR, [(0, 1)] * 6)[0], 3)
        self.assertEqual(turned_hues(RING, ROUND)[0], 3)
        self.assertEqual(turned_hues(("ring", 6), [(0, 3), (1, 4), (2, 5)] * 2)[0], 3)

    def test_hues_beyond_the_least_load(self):
        for net, ways in BEYOND:
            self.assertGreater(turned_hues(net, ways)[0], least_load(net, ways)[0])
            self.assertEqual(self.check(net, ways), "case")
            self.assertEqual(self.check(net, ways[::-1]), "case")
            self.assertEqual(self.check(net, [(b, a) for a, b in ways]), "case")

    def test_seven_ways_are_not_refused(self):
        for many in (3, 10, 60):
            ways = drawn_ways(("ring", many), 7, 1)
            self.assertIsNone(refusal(turned_hues, ("ring", many), ways))
            self.assertIsNone(refusal(turned_judged, ("ring", many), ways, None))


class Judged(unittest.TestCase):
    def check(self, net, ways, told, found):
        self.assertEqual(turned_judged(net, ways, told), found, (net, ways, told))
        self.assertEqual(judged_turned(net, ways, told), found, (net, ways, told))

    def test_turning(self):
        right = (2, [0, 1], [0, 1], ("turn", ("ties", 0, 1)))
        self.check(FOUR, [(0, 2), (1, 3)], (2, [0, 0], [0, 1], ("turn", ("ties", 0, 2))), ("paper",))
        self.check(FOUR, [(0, 1), (0, 1)], (1, [0, 1], [0, 0], ("turn", ("ties", 0, 1))), None)
        wrong = [[], [0], [0, 1, 0], [0, 2], [0, -1], [HUGE, 0], [0, True], [False, 1], [0, None], [0, "1"], [[0], 1],
                 (0, 1), None, "01", 1, ((0, 1),), [0, []]]
        for turning in wrong:
            # The turning goes ahead of the hues, and these ahead of the paper.
            for hues in ([0, 1], [0, 0], None):
                for paper in (right[3], None):
                    self.check(FOUR, ACROSS, (2, turning, hues, paper), ("turning",))
        for h in (True, None, "2", [2], (2,), ()):
            self.check(FOUR, ACROSS, (h, [0, 1], [0, 1], right[3]), ("turning",))

    def test_no_tuple_of_four(self):
        right = turned_hues(FOUR, ACROSS)
        for told in (list(right), right[:3], right + (None,), right[1:], (), [], None, (right,), "abcd", 4):
            self.check(FOUR, ACROSS, told, ("turning",))

    def test_hues(self):
        paper = turned_hues(FOUR, ACROSS)[3]
        wrong = [
            (1, [0, 0]), (2, [0, 0]), (1, [0, 1]), (3, [0, 1]), (-2, [0, 1]), (HUGE, [0, 1]), (2, [0]), (2, [0, 1, 2]),
            (2, []), (0, []), (2, [0, -1]), (2, [-HUGE, 0]), (2, [0, True]), (2, [False, 1]), (2, [None, 0]),
            (2, (0, 1)), (2, None), (2, "01"), (2, [[0], [1]]), (2, 2),
        ]
        for turning in itertools.product((0, 1), repeat=2):
            self.check(FOUR, ACROSS, (2, list(turning), [0, 1], paper), None)
            self.check(FOUR, ACROSS, (2, list(turning), [HUGE, 7], paper), None)
            for h, hues in wrong:
                for shown in (paper, None, ("none",), ("turn", ())):
                    self.check(FOUR, ACROSS, (h, list(turning), hues, shown), ("hues",))

    def test_hues_of_the_ways_so_turned(self):
        ways = [(0, 1), (0, 1)]
        paper = ("turn", ("ties", 0, 1))
        self.check(FOUR, ways, (1, [0, 0], [0, 0], paper), ("hues",))
        self.check(FOUR, ways, (1, [1, 1], [0, 0], paper), ("hues",))
        self.check(FOUR, ways, (1, [1, 0], [0, 0], paper), None)
        self.check(FOUR, ways, (1, [0, 1], [9, 9], paper), None)
        self.check(FOUR, ways, (2, [0, 0], [0, 1], paper), ("paper",))

    def test_none(self):
        for net in RINGS:
            self.check(net, [], (0, [], [], ("none",)), None)
            self.check(net, [(0, 1)], (1, [0], [0], ("none",)), ("paper",))
            for paper in (("none", 0), ["none"], "none", (), None, ("tie", 0), ("turn", ("ties", 0, 0)), ("turn", None),
                          ("case", (0, [])), ("case", ()), ("lot", 0, [])):
                self.check(net, [], (0, [], [], paper), ("paper",))

    def test_turn(self):
        ways = ACROSS + [(0, 2)]
        told = turned_hues(FOUR, ways)[:3]
        self.assertEqual(told[0], 2)
        for e, f in itertools.product(range(-1, 5), repeat=2):
            paper = ("turn", ("ties", e, f))
            found = None if right_turn_paper(FOUR, ways, told[0] - 1, paper[1]) else ("paper",)
            self.check(FOUR, ways, told + (paper,), found)
        one = [(0, 1)]
        self.check(FOUR, one, (1, [1], [4], ("turn", ("ties", 0, 3))), None)
        self.check(FOUR, one, (1, [1], [4], ("turn", (0, ("ties", 0, 0), ("ties", 3, 3)))), None)
        self.check(FOUR, one, (1, [1], [4], ("turn", (0, ("ties", 3, 3), ("ties", 0, 0)))), ("paper",))
        for paper in (("turn",), ("turn", ("ties", 0, 3), 0), ["turn", ("ties", 0, 3)], ("ties", 0, 3), ("tie", 0),
                      ("turns", ("ties", 0, 3)), ("lot", 0, [0, 1, 2]), ("turn", ["ties", 0, 3])):
            self.check(FOUR, one, (1, [1], [4], paper), ("paper",))

    def test_case(self):
        one = [(0, 1)]
        self.check(FOUR, one, (1, [0], [0], ("case", (0, []))), None)
        self.check(FOUR, one, (1, [1], [0], ("case", (0, []))), None)
        self.check(FOUR, one, (1, [0], [0], ("case", (0, [()]))), ("paper",))
        # Ways 0 and 1 cross: with one hue each is stuck, as it lies and turned.
        right = (0, [(1, [(), ()]), (1, [(), ()])])
        self.check(FOUR, ACROSS, (2, [0, 1], [0, 1], ("case", right)), None)
        for case in ((0, [(1, [(), ()])]), (0, [(1, [()]), (1, [()])]), (0, [(1, [()])]), (0, []), (), right[::-1],
                     (0, [(1, [(), ()]), ()]), (0, [(1, [(), ()]), (0, [(), ()])]), list(right), (0, right[1] * 2)):
            self.check(FOUR, ACROSS, (2, [0, 1], [0, 1], ("case", case)), ("paper",))
        for paper in (("case",), ("case", right, 0), ["case", right], right, ("cases", right)):
            self.check(FOUR, ACROSS, (2, [0, 1], [0, 1], paper), ("paper",))

    def test_options_as_they_lie_come_first(self):
        # Ways alike: the second one is stuck with the first one's hue only where both are turned alike.
        ways = [(0, 1), (0, 1), (0, 1)]
        free = (2, [(), ()])
        right = (0, [(1, [(), free]), (1, [free, ()])])
        self.check(FOUR, ways, (2, [0, 1, 0], [0, 0, 1], ("case", right)), None)
        wrong = (0, [(1, [free, ()]), (1, [(), free])])
        self.check(FOUR, ways, (2, [0, 1, 0], [0, 0, 1], ("case", wrong)), ("paper",))

    def test_two_hues_as_they_lie_then_turned(self):
        seen = 0
        for many in (4, 5, 6):
            for seed in range(10):
                ways = drawn_ways(("ring", many), 5, seed)
                h, turning, hues, paper = turned_hues(("ring", many), ways)
                lays = turned_rows(("ring", many), ways)
                case = first_case(lays, h - 1)
                self.assertTrue(is_case(lays, h - 1, case))
                self.check(("ring", many), ways, (h, turning, hues, ("case", case)), None)
                seen += h > 2
        self.assertGreater(seen, 5)

    def test_a_case_for_another_number(self):
        lays = turned_rows(FOUR, ACROSS + [(0, 2)])
        h, turning, hues, paper = turned_hues(FOUR, ACROSS + [(0, 2)])
        self.check(FOUR, ACROSS + [(0, 2)], (h, turning, hues, ("case", first_case(lays, h - 1))), None)
        self.check(FOUR, ACROSS + [(0, 2)], (h, turning, hues, ("case", first_case(lays, h - 2))), ("paper",))


class Anything(unittest.TestCase):
    def check(self, net, ways, told):
        self.assertEqual(turned_judged(net, ways, told), judged_turned(net, ways, told), (net, ways, told))

    def cases(self):
        yield FOUR, ACROSS
        yield FOUR, ACROSS + [(0, 2)]
        yield RING, ROUND
        yield RING, []
        yield ("ring", 6), [(0, 3), (1, 4), (2, 5)]

    def test_each_thing_bent(self):
        for net, ways in self.cases():
            told = turned_hues(net, ways)
            found = set()
            for other in bent(told):
                self.check(net, ways, other)
                found.add(turned_judged(net, ways, other))
            self.assertLessEqual({("turning",), ("hues",), ("paper",)}, found)

    def test_each_case_bent(self):
        for net, ways in ((FOUR, ACROSS), (FOUR, [(0, 1)] * 3)):
            h, turning, hues, paper = turned_hues(net, ways)
            for other in bent(("case", first_case(turned_rows(net, ways), h - 1))):
                self.check(net, ways, (h, turning, hues, other))

    def test_each_told_case_bent(self):
        for net, ways in BEYOND[:5]:
            told = turned_hues(net, ways)
            for other in itertools.islice(bent(told[3]), 0, None, 7):
                self.check(net, ways, told[:3] + (other,))

    def test_each_turn_paper_bent(self):
        for net, ways in self.cases():
            h, turning, hues, paper = turned_hues(net, ways)
            for other in bent(("turn", least_load(net, ways)[2])):
                self.check(net, ways, (h, turning, hues, other))

    def test_other_kinds(self):
        for net, ways in self.cases():
            h, turning, hues, paper = told = turned_hues(net, ways)
            for thing in ODD_THINGS:
                for at in range(4):
                    self.check(net, ways, told[:at] + (thing,) + told[at + 1:])
                for other in (("turn", thing), ("case", thing), (thing, ()), ("turn", (0, thing, thing)),
                              ("case", (0, [thing, thing]))):
                    self.check(net, ways, (h, turning, hues, other))
                self.check(net, ways, thing)
                self.check(net, ways, told + (thing,))


class Refusals(unittest.TestCase):
    def asked(self, net, ways):
        """What both refuse, which is the same."""
        told = refusal(turned_hues, net, ways)
        for thing in (None, (), (0, [], [], ("none",)), 5):
            self.assertEqual(refusal(turned_judged, net, ways, thing), told)
        return told

    def test_nets(self):
        for ways in ([], [(0, 1)], [(0, 0)], [(0, 1)] * 8):
            for net in OTHERS:
                self.assertEqual(self.asked(net, ways), ("OtherNet",))
            for net in WRONG_NETS:
                self.assertEqual(self.asked(net, ways), ("NoNet",))

    def test_no_way(self):
        for net in RINGS + [("ring", 60)]:
            for way in wrong_ways(net):
                for at in (0, 1, 6, 7, 38):
                    self.assertEqual(self.asked(net, [(0, 1)] * at + [way, (0, 0)]), ("NoWay", at))

    def test_too_many(self):
        for net in RINGS + [("ring", 60)]:
            for many in (8, 9, 40):
                self.assertEqual(self.asked(net, [(0, 1)] * many), ("TooMany",))
            self.assertIsNone(self.asked(net, [(0, 1)] * 7))
