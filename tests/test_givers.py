"""Points 8 to 10: ways that come one by one, their levels, own ties and hues."""

import itertools
import unittest

from tests.samples import (
    HUGE, NETS, WRONG_NETS, all_ways, drawn_ways, first_clash, level_hues, line_rows, refusal, wrong_ways,
)
from tiehues.givers import Giver


def levels_and_own(ways):
    """Point 8 word by word: the level and the own ties of each way."""
    rows, levels, own = line_rows(ways), [], []
    for at, row in enumerate(rows):
        def ahead(tie, fits):
            return sum(1 for k in range(at) if tie in rows[k] and fits(levels[k]))

        level = next(
            i for i in itertools.count(1) if all(ahead(tie, lambda other: other <= i) + 1 <= i for tie in row)
        )
        own.append([
            tie for tie in sorted(row)
            if ahead(tie, lambda other: other < level) == level - 1
            and ahead(tie, lambda other: other == level) == 0
        ])
        levels.append(level)
    return levels, own


def great_loads(many, ways):
    """The greatest load ahead of each further way, and at last."""
    counts, told = [0] * many, [0]
    for row in line_rows(ways):
        for tie in row:
            counts[tie] += 1
        told.append(max(counts))
    return told


def given(net, ways):
    giver = Giver(net)
    for way in ways:
        giver.put(way)
    return giver


class Put(unittest.TestCase):
    def check(self, many, ways):
        giver = Giver(("line", many))
        told = []
        for at, way in enumerate(ways):
            told.append(giver.put(way))
            self.assertEqual(giver.ways(), ways[:at + 1])
            self.assertEqual(giver.hues(), told)
        levels, own = levels_and_own(ways)
        self.assertEqual(giver.levels(), levels, (many, ways))
        self.assertEqual([giver.own_tie(at) for at in range(len(ways))], [min(ties) for ties in own], (many, ways))
        self.check_hues(many, ways, levels, told)

    def check_hues(self, many, ways, levels, told):
        rows = line_rows(ways)
        bounds = great_loads(many, ways)
        for at, hue in enumerate(told):
            self.assertIs(type(hue), int)
            self.assertIn(hue, level_hues(levels[at]), (many, ways))
            self.assertNotIn(hue, [told[k] for k in range(at) if rows[k] & rows[at]], (many, ways))
            self.assertLessEqual(len(set(told[:at + 1])), 3 * bounds[at + 1] - 2, (many, ways))

    def test_without_ways(self):
        for many in (2, 3, 41, 60):
            giver = Giver(("line", many))
            self.assertEqual((giver.ways(), giver.hues(), giver.levels()), ([], [], []))

    def test_by_hand(self):
        giver = Giver(("line", 5))
        self.assertEqual(giver.put((0, 2)), 0)
        self.assertEqual(giver.put((4, 2)), 0)
        self.assertIn(giver.put((3, 1)), (1, 2, 3))
        self.assertIn(giver.put((0, 4)), (4, 5, 6))
        self.assertIn(giver.put((0, 1)), (1, 2, 3))
        self.assertEqual(giver.ways(), [(0, 2), (4, 2), (3, 1), (0, 4), (0, 1)])
        self.assertEqual(giver.levels(), [1, 1, 2, 3, 2])
        self.assertEqual([giver.own_tie(at) for at in range(5)], [0, 2, 1, 1, 0])

    def test_single_ways(self):
        for many in (2, 3, 60):
            for way in all_ways(("line", many)):
                self.check(many, [way])

    def test_all_small_ones(self):
        for many, count in ((2, 5), (3, 4), (4, 3)):
            for ways in itertools.product(all_ways(("line", many)), repeat=count):
                self.check(many, list(ways))

    def test_one_tie_and_all_ties(self):
        self.check(2, [(0, 1), (1, 0)] * 20)
        self.check(60, [(0, 59)] * 40)
        self.check(60, [(59, 0), (0, 59)] * 20)
        self.check(60, [(k, k + 1) for k in range(40)])
        self.check(60, [(k + 1, k) for k in range(39)] + [(0, 59)])
        self.check(60, [(0, 59)] + [(k + 1, k) for k in range(39)])

    def test_stepped_and_nested(self):
        for wide in (2, 3, 7, 19):
            self.check(60, [(k, k + wide) for k in range(40)])
            self.check(60, [(k * 7 % 40 + wide, k * 7 % 40) for k in range(40)])
        inward = [(k, 59 - k) for k in range(29)]
        self.check(60, inward)
        self.check(60, inward[::-1])

    def test_forty_ways(self):
        for many in (2, 3, 4, 5, 8, 12, 20, 41, 60):
            for seed in range(8):
                self.check(many, drawn_ways(("line", many), 40, seed))

    def test_short_ways_on_a_long_line(self):
        for seed in range(12):
            starts = drawn_ways(("line", 50), 40, seed)
            self.check(60, [(a, a + 1 + b % 9) for a, b in starts])
            self.check(60, [(a + 1 + b % 4, a) for a, b in starts])

    def test_a_row_of_ways_of_one_level(self):
        # Each of the later ways meets the next one where no way of level 1 lies: all are of level 2.
        lone = [(1, 2), (5, 6), (9, 10), (13, 14), (17, 18)]
        row = [(1, 4), (3, 8), (7, 12), (11, 16), (15, 18)]
        for later in itertools.permutations(row):
            self.check(60, lone + list(later))
            self.assertEqual(given(("line", 60), lone + list(later)).levels(), [1] * 5 + [2] * 5)

    def test_hues_are_right(self):
        for seed in range(3):
            ways = drawn_ways(("line", 30), 40, seed)
            self.assertIsNone(first_clash(("line", 30), ways, given(("line", 30), ways).hues()))

    def test_the_same_each_time(self):
        for seed in range(3):
            ways = drawn_ways(("line", 30), 40, seed)
            self.assertEqual(given(("line", 30), ways).hues(), given(("line", 30), ways).hues())

    def test_givers_know_nothing_of_one_another(self):
        first, second = Giver(("line", 3)), Giver(("line", 3))
        first.put((0, 2))
        self.assertEqual(second.ways(), [])
        self.assertEqual(second.put((0, 2)), 0)
        self.assertIn(first.put((0, 2)), (1, 2, 3))
        self.assertEqual(second.levels(), [1])


class TheAskersOwn(unittest.TestCase):
    def test_new_lists(self):
        giver = given(("line", 9), drawn_ways(("line", 9), 12, 3))
        for asked in (giver.ways, giver.hues, giver.levels):
            told = asked()
            before = list(told)
            self.assertIsNot(asked(), told)
            told.reverse()
            told.append(99)
            told[0] = 5
            self.assertEqual(asked(), before)

    def test_told_lists_stay(self):
        giver = given(("line", 9), [(0, 4), (2, 7)])
        told = (giver.ways(), giver.hues(), giver.levels())
        kept = [list(part) for part in told]
        giver.put((0, 8))
        self.assertEqual(list(told), kept)

    def test_changing_them_changes_no_later_hue(self):
        ways = drawn_ways(("line", 9), 20, 4)
        giver, other = Giver(("line", 9)), Giver(("line", 9))
        for way in ways:
            self.assertEqual(giver.put(way), other.put(way))
            for asked in (giver.ways, giver.hues, giver.levels):
                asked().clear()
        self.assertEqual(giver.levels(), other.levels())
        self.assertEqual(giver.ways(), ways)


class Refusals(unittest.TestCase):
    def states(self, giver):
        many = len(giver.ways())
        return giver.ways(), giver.hues(), giver.levels(), [giver.own_tie(at) for at in range(many)]

    def test_nets(self):
        for net in NETS:
            self.assertEqual(refusal(Giver, net), None if net[0] == "line" else ("OtherNet",), net)
        for net in WRONG_NETS:
            self.assertEqual(refusal(Giver, net), ("NoNet",), net)

    def test_no_way(self):
        for net in (("line", 2), ("line", 5), ("line", 60)):
            for count in (0, 1, 39, 40):
                giver = given(net, drawn_ways(net, count, 1))
                before = self.states(giver)
                for way in wrong_ways(net):
                    self.assertEqual(refusal(giver.put, way), ("NoWay", None), (net, way, count))
                self.assertEqual(self.states(giver), before)

    def test_what_is_refused_changes_no_later_hue(self):
        net = ("line", 12)
        giver, other = Giver(net), Giver(net)
        for way in drawn_ways(net, 40, 6):
            for wrong in wrong_ways(net)[:4]:
                self.assertEqual(refusal(giver.put, wrong), ("NoWay", None))
            self.assertEqual(refusal(giver.own_tie, 40), ("NoWay", 40))
            self.assertEqual(giver.put(way), other.put(way))
        self.assertEqual(self.states(giver), self.states(other))

    def test_a_41st_way(self):
        for net in (("line", 2), ("line", 5), ("line", 60)):
            giver = given(net, drawn_ways(net, 40, 2))
            before = self.states(giver)
            for way in all_ways(net)[:20]:
                self.assertEqual(refusal(giver.put, way), ("TooMany",))
            self.assertEqual(self.states(giver), before)

    def test_no_number_of_a_way(self):
        for count in (0, 1, 2, 40):
            giver = given(("line", 7), drawn_ways(("line", 7), count, 3))
            before = self.states(giver)
            for number in (-1, -2, -count - 1, count, count + 1, 41, HUGE, -HUGE):
                self.assertEqual(refusal(giver.own_tie, number), ("NoWay", number))
            self.assertEqual(self.states(giver), before)
