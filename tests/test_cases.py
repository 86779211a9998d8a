"""Points 18 and 19: cases, why so many hues are not enough."""

import itertools
import unittest

from tests.readings import all_givings, bent, fewest_hues, places_in, right_case
from tests.samples import (
    HUGE, NETS, ODD_THINGS, RING, ROUND, SIDES, SMALL_NETS, STAR, WRONG_NETS, all_ways, drawn_ways, refusal, wrong_ways,
)
from tiehues.cases import case_judged, case_of

LINE = ("line", 4)
# Ways on which cases go through several hues: nets, ways, and a number of hues that is not enough.
HARD = [
    (LINE, [(0, 2)], 0), (LINE, [(0, 2), (1, 3)], 1), (LINE, [(0, 2), (1, 3), (0, 3)], 2), (RING, ROUND, 2),
    (RING, ROUND[::-1] + [(0, 1)], 2), (STAR, SIDES, 2), (STAR, SIDES * 2, 4), (STAR, SIDES * 2, 5),
    (("tree", [0, 0, 0, 0, 0]), [(1, 2), (2, 3), (3, 4), (4, 5), (5, 1)], 2),
    (("ring", 3), [(0, 2), (1, 0), (2, 1)], 2),
    (("ring", 7), [(2 * k % 7, (2 * k + 3) % 7) for k in range(7)], 3),
]


class Judged(unittest.TestCase):
    def check(self, net, ways, h, case, told):
        found = case_judged(net, ways, h, case)
        self.assertIs(found, told, (net, ways, h, case))

    def test_without_hues(self):
        for net in NETS:
            self.check(net, [(0, 1)], 0, (0, []), True)
            self.check(net, [(0, 1), (1, 0)], 0, (1, []), True)
            for case in ((0, [()]), (1, []), (-1, []), (), (0, ()), (0, [(0, [])])):
                self.check(net, [(0, 1)], 0, case, False)

    def test_by_hand(self):
        ways = [(0, 2), (1, 3)]
        self.check(LINE, ways, 1, (0, [(1, [()])]), True)
        self.check(LINE, ways, 1, (1, [(0, [()])]), True)
        self.check(LINE, [(0, 1), (1, 3), (2, 3)], 1, (2, [(1, [()])]), True)
        # Where the way that is named meets none with that hue, () has no place.
        self.check(LINE, [(0, 1), (1, 3), (2, 3)], 1, (0, [(1, [()])]), False)
        self.check(LINE, [(0, 1), (1, 3), (2, 3)], 1, (0, [(1, [(2, [()])])]), True)
        three = [(0, 2), (1, 3), (0, 3)]
        self.check(LINE, three, 2, (0, [(1, [(), (2, [(), ()])])]), True)
        self.check(LINE, three, 1, (0, [(1, [()])]), True)
        self.check(RING, ROUND, 2, (0, [(1, [(), (2, [(3, [(), (4, [(), ()])]), ()])])]), True)

    def test_two_options_at_one_way(self):
        # Way 2 meets neither of the two ahead of it: both hues are gone through.
        ways = [ROUND[0], ROUND[1], ROUND[3], ROUND[2], ROUND[4]]
        stuck = [(3, [(), ()]), (4, [(), ()])]
        self.check(RING, ways, 2, (0, [(1, [(), (2, stuck)])]), True)
        self.check(RING, ways, 2, (0, [(1, [(), (2, stuck[::-1])])]), False)
        self.check(RING, ways, 2, (0, [(1, [(), (2, stuck[:1])])]), False)
        self.check(RING, ways, 2, (0, [(1, [(), (2, stuck[:1] * 2)])]), False)
        self.check(RING, ways, 2, (0, [(1, [(), (2, [()] + stuck[1:])])]), False)

    def test_no_ways(self):
        for net in NETS:
            for h in (0, 1, 12):
                for case in [(0, []), (0, [()]), (0, [(0, [])])] + ODD_THINGS:
                    self.check(net, [], h, case, False)

    def test_each_thing_bent(self):
        for net, ways, h in HARD:
            case = case_of(net, ways, h)
            self.check(net, ways, h, case, True)
            seen = set()
            for other in bent(case):
                told = right_case(net, ways, h, other)
                seen.add(told)
                self.check(net, ways, h, other, told)
            self.assertIn(False, seen)

    def test_other_numbers_of_hues(self):
        for net, ways, h in HARD:
            case = case_of(net, ways, h)
            for other in range(13):
                self.check(net, ways, other, case, right_case(net, ways, other, case))
            self.check(net, ways, h + 1, case, False)

    def test_all_small_cases(self):
        # Every case of three ways and two hues there is, as deep as it can go.
        leaves = [(), (0, []), (2, [(), ()]), (2, [()]), (1, [(), ()]), (2, [(), (), ()])]
        middle = leaves + [(1, [a, b]) for a in leaves for b in leaves] + [(2, [a, b]) for a in leaves for b in leaves]
        for ways in ([(0, 2), (1, 3), (0, 3)], [(0, 1), (1, 2), (0, 2)], [(0, 1), (0, 1), (0, 1)]):
            for k, child in itertools.product(range(3), middle):
                for h in (1, 2, 3):
                    self.check(LINE, ways, h, (k, [child]), right_case(LINE, ways, h, (k, [child])))

    def test_deep_ones(self):
        ways = [(0, 1)] * 12
        case = (11, [()] * 11)
        for k in range(10, -1, -1):
            case = (k, [()] * k + [case])
        self.check(("line", 2), ways, 11, case, True)
        self.check(("line", 2), ways, 12, case, False)
        self.check(("line", 2), ways[1:], 11, case, False)
        self.check(("line", 2), ways[1:], 10, case, False)

    def test_other_kinds(self):
        for net, ways, h in HARD + [(net, [(0, 1)] * 3, 2) for net in NETS]:
            for thing in ODD_THINGS:
                self.check(net, ways, h, thing, right_case(net, ways, h, thing))
                self.check(net, ways, h, (0, [thing]), right_case(net, ways, h, (0, [thing])))
                self.check(net, ways, h, (thing, [()]), right_case(net, ways, h, (thing, [()])))
                self.check(net, ways, h, (0, thing), right_case(net, ways, h, (0, thing)))

    def test_truths_are_no_numbers(self):
        ways = [(0, 2), (1, 3)]
        self.check(LINE, ways, 1, (False, [(1, [()])]), False)
        self.check(LINE, ways, 1, (0, [(True, [()])]), False)

    def test_what_is_let_by_is_right(self):
        for net, ways, h in HARD:
            self.assertGreater(fewest_hues(net, ways), h)
            for other in range(fewest_hues(net, ways), 10):
                self.assertFalse(case_judged(net, ways, other, case_of(net, ways, h)))


class Found(unittest.TestCase):
    def check(self, net, ways):
        least = fewest_hues(net, ways)
        for h in range(len(ways) + 2):
            case = case_of(net, ways, h)
            if h >= least:
                self.assertIsNone(case, (net, ways, h))
            else:
                self.assertTrue(right_case(net, ways, h, case), (net, ways, h, case))
                self.assertIs(case_judged(net, ways, h, case), True)

    def test_no_ways(self):
        for net in NETS:
            self.assertEqual([case_of(net, [], h) for h in range(14)], [None] * 14)

    def test_single_ways(self):
        for net in SMALL_NETS:
            for way in all_ways(net):
                self.check(net, [way])

    def test_all_small_ones(self):
        for net in (("line", 3), ("ring", 3), ("tree", [0, 0])):
            for ways in itertools.product(all_ways(net), repeat=3):
                self.check(net, list(ways))

    def test_hard_ones(self):
        for net, ways, h in HARD:
            self.check(net, ways)

    def test_drawn_ones(self):
        for net in SMALL_NETS + [("ring", 9), ("ring", 12), ("tree", [0] * 6), ("tree", [0, 0, 1, 1, 2, 2, 3])]:
            for many in (4, 6, 7):
                for seed in range(4):
                    self.check(net, drawn_ways(net, many, seed))

    def test_eight_ways(self):
        trees = [("tree", [0] * 7), ("tree", [0, 0, 1, 1, 2])]
        for net in [("line", 60), ("ring", 8), ("ring", 11), ("ring", 60)] + trees:
            for seed in range(3):
                self.check(net, drawn_ways(net, 8, seed))
        self.check(("ring", 8), [(k, (k + 3) % 8) for k in range(8)])
        self.check(("ring", 8), [(k, (k + 5) % 8) for k in range(8)])
        self.check(("tree", [0] * 5), [(1, 2), (2, 3), (3, 4), (4, 5), (5, 1), (1, 2), (3, 4), (5, 1)])
        self.check(("ring", 60), [(0, 59)] * 8)

    def test_nine_to_twelve_are_not_refused(self):
        for net in (("line", 60), ("ring", 60), ("tree", [0] * 59)):
            for many in (9, 12):
                ways = drawn_ways(net, many, 3)
                self.assertIsNone(refusal(case_of, net, ways, 2))
                self.assertIsNone(refusal(case_judged, net, ways, 2, (0, [])))

    def test_more_hues_than_told(self):
        for h in (13, 20, 100):
            self.assertIsNone(case_of(RING, ROUND, h))
            self.assertIs(case_judged(RING, ROUND, h, (0, [()])), False)

    def test_all_givings_are_as_many_as_they_should_be(self):
        self.assertEqual([len(all_givings(many)) for many in range(9)], [1, 1, 2, 5, 15, 52, 203, 877, 4140])

    def test_every_place_of_a_case_counts(self):
        case = case_of(("ring", 7), HARD[-1][1], 3)
        self.assertGreater(len(places_in(case)), 20)


class Refusals(unittest.TestCase):
    def asked(self, net, ways, h):
        """What both refuse, which is the same."""
        told = refusal(case_of, net, ways, h)
        for case in (None, (), (0, []), [0]):
            self.assertEqual(refusal(case_judged, net, ways, h, case), told)
        return told

    def test_no_net(self):
        for net in WRONG_NETS:
            for ways in ([], [(0, 0)], [(0, 1)] * 13):
                for h in (-1, 0, 3):
                    self.assertEqual(self.asked(net, ways, h), ("NoNet",))

    def test_no_way(self):
        for net in SMALL_NETS:
            for way in wrong_ways(net):
                for at in (0, 1, 11, 12, 38):
                    for h in (-1, 2):
                        self.assertEqual(self.asked(net, [(0, 1)] * at + [way, (0, 0)], h), ("NoWay", at))

    def test_too_many(self):
        for net in NETS:
            for many in (13, 14, 40):
                for h in (-1, -HUGE, 0, 12):
                    self.assertEqual(self.asked(net, [(0, 1)] * many, h), ("TooMany",))
            self.assertIsNone(self.asked(net, [(0, 1)] * 12, 11))

    def test_no_number(self):
        for net in NETS:
            for ways in ([], [(0, 1)], [(0, 1)] * 12):
                for h in (-1, -2, -HUGE):
                    self.assertEqual(self.asked(net, ways, h), ("NoNumber",))
                self.assertIsNone(self.asked(net, ways, 0))
