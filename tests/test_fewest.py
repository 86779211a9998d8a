"""Point 21: the fewest hues, and the judge of what shows them; and of point 3 what it promises of both."""

import itertools
import unittest

from tests.readings import bent, fewest_hues, judged_fewest, right_case
from tests.samples import (
    HUGE, NETS, ODD_THINGS, RING, ROUND, SIDES, SMALL_NETS, STAR, WRONG_NETS, all_ways, drawn_ways, ends_of_ties,
    refusal, wrong_ways,
)
from tiehues.cases import case_of
from tiehues.fewest import fewest, fewest_judged

LINE = ("line", 4)
FIVE = ("tree", [0, 0, 0, 0, 0])
DRAWN_ON = SMALL_NETS + [("line", 60), ("ring", 8), ("ring", 60), ("tree", [0] * 6), ("tree", [0, 1, 1, 1, 2, 2, 0])]


def knot():
    """Twelve ways at a place of nine ties that need four hues, though no tie and no lot shows it."""
    # The pairs of five things, but one of these pairs, and a way between any two without a common thing.
    pairs = list(itertools.combinations(range(5), 2))[1:]
    sides = [(a, b) for b in range(9) for a in range(b) if not set(pairs[a]) & set(pairs[b])]
    return [(a + 1, b + 1) for a, b in sides]


class Fewest(unittest.TestCase):
    def check(self, net, ways):
        told = fewest(net, ways)
        self.assertIs(type(told), tuple)
        self.assertEqual(told[0], fewest_hues(net, ways), (net, ways))
        self.check_let_by(net, ways, told)
        return told[2][0]

    def check_let_by(self, net, ways, told):
        self.assertIsNone(judged_fewest(net, ways, told), (net, ways, told))
        self.assertIsNone(fewest_judged(net, ways, told), (net, ways, told))

    def test_no_ways(self):
        for net in NETS:
            self.assertEqual(fewest(net, []), (0, [], ("none",)))

    def test_single_ways(self):
        for net in SMALL_NETS:
            for way in all_ways(net):
                h, hues, paper = fewest(net, [way])
                self.assertEqual((h, len(hues), paper[0]), (1, 1, "tie"))
                self.check(net, [way])

    def test_all_small_ones(self):
        for net in (("line", 3), ("ring", 3), ("ring", 4), ("tree", [0, 0]), STAR):
            for ways in itertools.product(all_ways(net), repeat=3):
                self.check(net, list(ways))

    def test_drawn_ones(self):
        kinds = {(net[0], self.check(net, drawn_ways(net, many, seed)))
                 for net in DRAWN_ON for many in (4, 5, 7) for seed in range(8)}
        for kind in (("line", "tie"), ("ring", "tie"), ("ring", "case"), ("tree", "tie"), ("tree", "lot")):
            self.assertIn(kind, kinds)

    def test_by_hand(self):
        self.assertEqual(fewest(RING, ROUND)[0], 3)
        self.assertEqual(fewest(RING, ROUND * 2)[0], 5)
        self.assertEqual(fewest(STAR, SIDES)[0], 3)
        self.assertEqual(fewest(STAR, SIDES * 4)[0], 12)
        self.assertEqual(fewest(("line", 60), [(k, k + 20) for k in range(12)])[0], 12)

    def test_twelve_ways(self):
        for net in DRAWN_ON:
            for many in (9, 12):
                for seed in range(8):
                    ways = drawn_ways(net, many, seed)
                    self.check_let_by(net, ways, fewest(net, ways))
        for wide in range(1, 12):
            ways = [(k, (k + wide) % 12) for k in range(12)]
            self.check_let_by(("ring", 12), ways, fewest(("ring", 12), ways))
        for ways in ([(0, 59)] * 12, [(0, 1)] * 12, [(k, k + 7) for k in range(12)]):
            for net in (("line", 60), ("ring", 60), ("tree", list(range(59)))):
                self.check_let_by(net, ways, fewest(net, ways))

    def test_neither_tie_nor_lot(self):
        net, ways = ("tree", [0] * 9), knot()
        told = fewest(net, ways)
        self.assertEqual((told[0], told[2][0], len(ways)), (4, "case", 12))
        self.check_let_by(net, ways, told)

    def test_lots_where_many_ties_meet(self):
        wide = ("tree", [0] * 59)
        ways = [(10, 20), (20, 30), (30, 40), (40, 50), (50, 10)] * 2 + [(1, 2), (3, 4)]
        told = fewest(wide, ways)
        self.assertEqual(told[0], 5)
        self.check_let_by(wide, ways, told)
        # All but three of these ties have one way.
        ways = SIDES + [(k, k + 20) for k in range(10, 19)]
        for order in (ways, ways[::-1], [(60 - a, 60 - b) for a, b in ways]):
            told = fewest(wide, order)
            self.assertEqual((told[0], told[2][0]), (3, "lot"))
            self.check_let_by(wide, order, told)

    def test_lots_beside_ties_with_one_way(self):
        for many in (4, 5, 6):
            net = ("tree", [0] * many)
            for lot in itertools.combinations(range(1, many + 1), 3):
                sides = list(itertools.combinations(lot, 2))
                for k in set(range(1, many + 1)) - set(lot):
                    self.assertEqual(self.check(net, sides * 2 + [(k, lot[0])]), "lot")
                    self.check(net, sides + [(k, lot[0]), (k, 0)])

    def test_what_is_told_uses_just_so_many(self):
        for net in DRAWN_ON:
            ways = drawn_ways(net, 12, 5)
            h, hues, paper = fewest(net, ways)
            self.assertEqual(len(set(hues)), h)


class Hues(unittest.TestCase):
    def check(self, net, ways, told, found):
        self.assertEqual(fewest_judged(net, ways, told), found, (net, ways, told))
        self.assertEqual(judged_fewest(net, ways, told), found, (net, ways, told))

    def test_right_ones(self):
        paper = ("tie", 1)
        for hues in ([0, 1], [1, 0], [7, 3], [HUGE, 0], [10 ** 30 - 1, HUGE]):
            self.check(LINE, [(0, 2), (1, 3)], (2, hues, paper), None)

    def test_wrong_ones(self):
        paper = ("tie", 1)
        wrong = [
            (1, [0, 1]), (3, [0, 1]), (2, [0, 0]), (1, [0, 0]), (2, [0]), (2, [0, 1, 2]), (3, [0, 1, 2]), (2, []),
            (0, []),
            (2, [0, -1]), (2, [-1, -2]), (2, [-HUGE, 1]), (2, (0, 1)), (2, None), (2, "01"), (2, 2), (2, [0, True]),
            (2, [False, 1]), (2, [0, None]), (2, [0, "1"]), (2, [[0], [1]]), (2, [0, ()]), (True, [0, 1]),
            ("2", [0, 1]), (None, [0, 1]), ([2], [0, 1]), ((2,), [0, 1]), (-2, [0, 1]), (HUGE, [0, 1]),
        ]
        for h, hues in wrong:
            # Hues go ahead of the paper.
            for shown in (paper, ("tie", 0), None, ("none",), ()):
                self.check(LINE, [(0, 2), (1, 3)], (h, hues, shown), ("hues",))

    def test_truths(self):
        self.check(LINE, [(0, 2)], (1, [0], ("tie", 0)), None)
        self.check(LINE, [(0, 2)], (True, [0], ("tie", 0)), ("hues",))
        self.check(LINE, [(0, 2)], (1, [False], ("tie", 0)), ("hues",))
        self.check(LINE, [(0, 2)], (1, [0], ("tie", False)), ("paper",))
        self.check(LINE, [], (False, [], ("none",)), ("hues",))

    def test_no_tuple_of_three(self):
        right = (2, [0, 1], ("tie", 1))
        for told in (list(right), right[:2], right + (None,), right[::-1], (), [], None, (right,), "abc", 3):
            self.check(LINE, [(0, 2), (1, 3)], told, ("hues",))


class Papers(unittest.TestCase):
    def check(self, net, ways, told, found):
        self.assertEqual(fewest_judged(net, ways, told), found, (net, ways, told))
        self.assertEqual(judged_fewest(net, ways, told), found, (net, ways, told))

    def test_none(self):
        for net in NETS:
            self.check(net, [], (0, [], ("none",)), None)
            self.check(net, [(0, 1)], (1, [0], ("none",)), ("paper",))
            for paper in (("none", 0), ("none", None), ["none"], "none", ("None",), ("",), ()):
                self.check(net, [], (0, [], paper), ("paper",))

    def test_tie(self):
        ways = [(0, 2), (1, 3)]
        self.check(LINE, ways, (2, [0, 1], ("tie", 1)), None)
        for tie in (0, 2, 3, -1, -2, 4, HUGE, -HUGE, True, None, "1", [1], (1,)):
            self.check(LINE, ways, (2, [0, 1], ("tie", tie)), ("paper",))
        for paper in (("tie",), ("tie", 1, 1), ["tie", 1], ("ties", 1), ("Tie", 1), (1, "tie"), ("tie", 1, None)):
            self.check(LINE, ways, (2, [0, 1], paper), ("paper",))
        self.check(("ring", 3), [(0, 2), (2, 0)], (1, [5, 5], ("tie", 2)), None)
        self.check(("ring", 3), [(0, 2), (2, 0)], (1, [5, 5], ("tie", 3)), ("paper",))
        self.check(STAR, SIDES[:2], (2, [0, 1], ("tie", 1)), None)
        self.check(STAR, SIDES[:2], (2, [0, 1], ("tie", 0)), ("paper",))

    def test_a_tie_without_ways_on_it(self):
        for net in NETS:
            self.check(net, [], (0, [], ("tie", 0)), None)
            ties = len(ends_of_ties(net))
            self.check(net, [], (0, [], ("tie", ties - 1)), None)
            for tie in (-1, ties, 99):
                self.check(net, [], (0, [], ("tie", tie)), ("paper",))

    def test_a_lot_without_ways(self):
        self.check(STAR, [], (0, [], ("lot", 0, [0, 1, 2])), None)
        for place, lot in ((0, [0, 1]), (0, []), (1, [0, 1, 2]), (0, [1, 2, 3])):
            self.check(STAR, [], (0, [], ("lot", place, lot)), ("paper",))

    def test_lot(self):
        told = (3, [0, 1, 2])
        self.check(STAR, SIDES, told + (("lot", 0, [0, 1, 2]),), None)
        wrong = [
            (0, [0, 2, 1]), (0, [1, 2, 3]), (0, [0, 1]), (0, [0]), (0, []), (0, [0, 1, 2, 3]), (0, [0, 0, 1, 1, 2]),
            (0, (0, 1, 2)), (0, None), (0, "012"), (0, [0, 1, "2"]), (0, [False, 1, 2]), (0, [0, True, 2]),
            (0, [-1, 1, 2]),
            (1, [0, 1, 2]), (3, [0, 1, 2]), (4, [0, 1, 2]), (-1, [0, 1, 2]), (HUGE, [0, 1, 2]), (False, [0, 1, 2]),
            (None, [0, 1, 2]), ("0", [0, 1, 2]), (0, [0, 1, HUGE]), (0, [0, [1], 2]),
        ]
        for place, lot in wrong:
            self.check(STAR, SIDES, told + (("lot", place, lot),), ("paper",))
        for paper in (("lot",), ("lot", 0), ("lot", [0, 1, 2]), ("lot", 0, [0, 1, 2], 0), ["lot", 0, [0, 1, 2]]):
            self.check(STAR, SIDES, told + (paper,), ("paper",))

    def test_lot_by_which_fewer_are_needed(self):
        ways = SIDES + [(1, 2)]
        self.check(STAR, ways, (4, [0, 1, 2, 3], ("lot", 0, [0, 1, 2])), None)
        self.check(STAR, ways[:2], (2, [0, 1], ("lot", 0, [0, 1, 2])), None)
        self.check(STAR, ways[:1] * 2 + [(1, 0)], (3, [0, 1, 2], ("lot", 0, [0, 1, 2])), ("paper",))
        self.check(FIVE, SIDES, (3, [0, 1, 2], ("lot", 0, [0, 1, 2])), None)
        self.check(FIVE, SIDES, (3, [0, 1, 2], ("lot", 0, [0, 1, 2, 3, 4])), ("paper",))
        self.check(FIVE, SIDES, (3, [0, 1, 2], ("lot", 0, [0, 1, 3])), ("paper",))

    def test_lot_in_the_places_own_numbers(self):
        net = ("tree", [0, 1, 1, 1])
        ways = [(2, 3), (3, 4), (4, 2)]
        self.check(net, ways, (3, [0, 1, 2], ("lot", 1, [1, 2, 3])), None)
        self.check(net, ways, (3, [0, 1, 2], ("lot", 1, [0, 1, 2])), ("paper",))
        self.check(net, ways, (3, [0, 1, 2], ("lot", 0, [1, 2, 3])), ("paper",))

    def test_lot_on_other_nets(self):
        for net in (("line", 4), ("ring", 4), ("ring", 3)):
            ways = [(0, 2), (0, 2), (0, 1)]
            self.check(net, ways, (3, [0, 1, 2], ("tie", 0)), None)
            for place in (0, 1):
                self.check(net, ways, (3, [0, 1, 2], ("lot", place, [0, 1, 2])), ("paper",))

    def test_case(self):
        for net, ways, h in ((LINE, [(0, 2), (1, 3)], 2), (RING, ROUND, 3), (STAR, SIDES, 3), (LINE, [(0, 3)], 1)):
            hues = fewest(net, ways)[1]
            case = case_of(net, ways, h - 1)
            self.check(net, ways, (h, hues, ("case", case)), None)
            for other in range(h - 1):
                found = None if right_case(net, ways, h - 1, case_of(net, ways, other)) else ("paper",)
                self.check(net, ways, (h, hues, ("case", case_of(net, ways, other))), found)
            more = list(range(len(ways)))
            if len(ways) > h:
                # Right hues, but the case is for another number.
                self.check(net, ways, (len(ways), more, ("case", case)), ("paper",))
            wrong = [("case",), ("case", ()), ("case", case, 0), ["case", case], ("case", [case]), ("cases", case)]
            for paper in wrong + [case]:
                self.check(net, ways, (h, hues, paper), ("paper",))

    def test_no_hues_with_a_case(self):
        for case in ((), (0, []), (0, [()]), None):
            self.check(LINE, [], (0, [], ("case", case)), ("paper",))
        self.check(LINE, [(0, 1)], (1, [0], ("case", (0, []))), None)
        self.check(LINE, [(0, 1)], (1, [0], ("case", (0, [()]))), ("paper",))


class Anything(unittest.TestCase):
    def check(self, net, ways, told):
        self.assertEqual(fewest_judged(net, ways, told), judged_fewest(net, ways, told), (net, ways, told))

    def cases(self):
        yield LINE, [(0, 2), (1, 3)]
        yield RING, ROUND
        yield STAR, SIDES
        yield FIVE, [(1, 2), (2, 3), (3, 4), (4, 5), (5, 1)]
        yield RING, []

    def test_each_thing_bent(self):
        for net, ways in self.cases():
            told = fewest(net, ways)
            found = set()
            for other in bent(told):
                self.check(net, ways, other)
                found.add(fewest_judged(net, ways, other))
            self.assertLessEqual({("hues",), ("paper",)}, found)

    def test_each_case_bent(self):
        for net, ways in self.cases():
            if ways:
                h, hues, paper = fewest(net, ways)
                for other in bent(("case", case_of(net, ways, h - 1))):
                    self.check(net, ways, (h, hues, other))

    def test_other_kinds(self):
        for net, ways in self.cases():
            h, hues, paper = fewest(net, ways)
            for thing in ODD_THINGS:
                lots = [("lot", 0, thing), ("lot", thing, [0, 1, 2])]
                for other in lots + [thing, ("case", thing), ("tie", thing), (thing, 0)]:
                    self.check(net, ways, (h, hues, other))
                for told in (thing, (thing, hues, paper), (h, thing, paper), (h, hues, paper, thing)):
                    self.check(net, ways, told)
                self.check(net, ways, (h, [thing] * len(ways), paper))

    def test_what_is_let_by_is_right(self):
        net, ways = ("ring", 4), [(0, 2), (1, 3), (2, 0), (3, 1)]
        least = fewest_hues(net, ways)
        papers = [("none",), ("case", (0, []))] + [("tie", tie) for tie in range(4)]
        papers += [("case", case_of(net, ways, h)) for h in range(least)]
        let_by = 0
        for hues in itertools.product(range(4), repeat=4):
            for paper in papers:
                for h in range(5):
                    if fewest_judged(net, ways, (h, list(hues), paper)) is None:
                        self.assertEqual(h, least)
                        let_by += 1
        self.assertGreater(let_by, 0)


class Refusals(unittest.TestCase):
    def asked(self, net, ways):
        """What both refuse, which is the same."""
        told = refusal(fewest, net, ways)
        for thing in (None, (), (0, [], ("none",)), 5):
            self.assertEqual(refusal(fewest_judged, net, ways, thing), told)
        return told

    def test_no_net(self):
        for net in WRONG_NETS:
            for ways in ([], [(0, 0)], [(0, 1)] * 13):
                self.assertEqual(self.asked(net, ways), ("NoNet",))

    def test_no_way(self):
        for net in SMALL_NETS:
            for way in wrong_ways(net):
                for at in (0, 1, 11, 12, 38):
                    self.assertEqual(self.asked(net, [(0, 1)] * at + [way, (0, 0)]), ("NoWay", at))

    def test_too_many(self):
        for net in NETS:
            for many in (13, 14, 40):
                self.assertEqual(self.asked(net, [(0, 1)] * many), ("TooMany",))
            self.assertIsNone(self.asked(net, [(0, 1)] * 12))
