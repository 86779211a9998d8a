"""Point 12: one who lays ways so that any giver of hues needs four."""

import itertools
import unittest

from tests.samples import HUGE, line_rows, refusal, wrong_ways
from tiehues.forcer import next_way
from tiehues.givers import Giver

BOARD = ("line", 41)


def met(ways, hues):
    """The hues that the last way may not have."""
    rows = line_rows(ways)
    return {hue for row, hue in zip(rows, hues) if row & rows[-1]}


def least_free(ways, hues):
    return next(hue for hue in itertools.count() if hue not in met(ways, hues))


def greatest(ways, hues):
    return max(set(hues) - met(ways, hues), default=max(hues, default=7) + 5)


def least_often(ways, hues):
    return min(set(hues) - met(ways, hues), key=lambda hue: (hues.count(hue), hue), default=HUGE - len(hues))


def most_often(ways, hues):
    return max(set(hues) - met(ways, hues), key=lambda hue: (hues.count(hue), hue), default=HUGE - len(hues))


def by_turns(ways, hues):
    return next(hue for hue in itertools.count(len(hues) % 3) if hue not in met(ways, hues))


def of_three(ways, hues):
    turned = [(len(hues) + step) % 3 for step in range(3)]
    return next((hue for hue in turned if hue not in met(ways, hues)), 3)


def always_new(ways, hues):
    return HUGE - 3 * len(hues)


def by_a_giver(ways, hues):
    giver = Giver(BOARD)
    return [giver.put(way) for way in ways][-1]


GIVERS = (least_free, greatest, least_often, most_often, by_turns, of_three, always_new, by_a_giver)


def play(giver):
    """The ways and the hues of a whole play."""
    ways, hues = [], []
    while (way := next_way(list(ways), list(hues))) is not None:
        ways.append(way)
        hues.append(giver(ways, hues))
        assert len(ways) < 50
    return ways, hues


class Plays(unittest.TestCase):
    def check_ways(self, ways):
        for way in ways:
            self.assertIs(type(way), tuple)
            self.assertEqual([type(place) for place in way], [int, int])
            self.assertTrue(all(0 <= place < 41 for place in way) and way[0] != way[1], way)
        rows = line_rows(ways)
        self.assertLessEqual(max((sum(tie in row for row in rows) for tie in range(40)), default=0), 2, ways)

    def test_each_giver(self):
        for giver in GIVERS:
            ways, hues = play(giver)
            self.check_ways(ways)
            self.assertLessEqual(len(ways), 14, giver.__name__)
            self.assertGreaterEqual(len(set(hues)), 4, giver.__name__)
            self.assertLess(len(set(hues[:-1])), 4, giver.__name__)

    def test_any_giver(self):
        # All givers there are, but for the names of their hues.
        ends = 0
        todo = [([], [])]
        while todo:
            ways, hues = todo.pop()
            way = next_way(ways, hues)
            self.assertEqual(way is None, len(set(hues)) >= 4, (ways, hues))
            if way is None:
                ends += 1
                self.check_ways(ways)
                continue
            self.assertLess(len(ways), 14)
            further = ways + [way]
            options = set(range(len(set(hues)) + 1)) - met(further, hues)
            todo += [(further, hues + [hue]) for hue in sorted(options)]
        self.assertGreater(ends, 1000)

    def test_the_names_of_hues_do_not_matter(self):
        for giver in GIVERS:
            ways, hues = play(giver)
            for name in (lambda hue: hue * HUGE, lambda hue: 5 * HUGE - hue, lambda hue: hue + 10 ** 60):
                named = [name(hue) for hue in hues]
                for at in range(len(ways)):
                    self.assertEqual(refusal(next_way, ways[:at], named[:at]), None)
                    self.assertIsNotNone(next_way(ways[:at], named[:at]))
                self.assertIsNone(next_way(ways, named))

    def test_the_same_each_time(self):
        for giver in GIVERS:
            ways, hues = play(giver)
            self.assertEqual(play(giver), (ways, hues))
            for at, way in enumerate(ways):
                self.assertEqual(next_way(ways[:at], hues[:at]), way)

    def test_what_is_handed_in_stays(self):
        for giver in GIVERS:
            ways, hues = play(giver)
            for at in range(len(ways) + 1):
                some_ways, some_hues = ways[:at], hues[:at]
                next_way(some_ways, some_hues)
                self.assertEqual((some_ways, some_hues), (ways[:at], hues[:at]))


class Refusals(unittest.TestCase):
    def test_more_or_fewer_hues(self):
        self.assertEqual(refusal(next_way, [], [0]), ("NoHues", None))
        for giver in GIVERS:
            ways, hues = play(giver)
            for wrong in (hues + [0], hues[:-1], [], hues + [-1], [-1]):
                self.assertEqual(refusal(next_way, ways, wrong), ("NoHues", None))
            self.assertEqual(refusal(next_way, [(0, 0)] + ways, hues), ("NoHues", None))
            self.assertEqual(refusal(next_way, ways[:-1] + [(-1, 50)], hues[1:]), ("NoHues", None))

    def test_hues_below_0(self):
        for giver in GIVERS:
            ways, hues = play(giver)
            for at in range(len(ways)):
                for below in (-1, -HUGE):
                    wrong = hues[:at] + [below] + hues[at + 1:]
                    self.assertEqual(refusal(next_way, ways, wrong), ("NoHues", None))
                    self.assertEqual(refusal(next_way, [(0, 0)] * len(ways), wrong), ("NoHues", None))

    def test_another_way(self):
        for giver in GIVERS:
            ways, hues = play(giver)
            for at, way in enumerate(ways):
                others = [way[::-1], (way[0], way[1] + 1), (way[0] - 1, way[1]), (0, 40), *wrong_ways(BOARD)]
                for other in others:
                    wrong = ways[:at] + [other] + ways[at + 1:]
                    self.assertEqual(refusal(next_way, wrong, hues), ("NoWay", at), wrong)
                    self.assertEqual(refusal(next_way, wrong[:at + 1], hues[:at + 1]), ("NoWay", at), wrong)

    def test_the_first_of_several(self):
        ways, hues = play(least_free)
        for at in range(len(ways)):
            wrong = ways[:at] + [(0, 0)] * (len(ways) - at)
            self.assertEqual(refusal(next_way, wrong, hues), ("NoWay", at))

    def test_a_way_left_out(self):
        for giver in GIVERS:
            ways, hues = play(giver)
            for at in range(len(ways) - 1):
                rest, others = ways[:at] + ways[at + 1:], hues[:at] + hues[at + 1:]
                self.assertEqual(refusal(next_way, rest, others)[0], "NoWay")
            self.assertEqual(refusal(next_way, ways[1:], hues[1:]), ("NoWay", 0))

    def test_a_way_behind_the_last(self):
        for giver in GIVERS:
            ways, hues = play(giver)
            for more in ((0, 1), (39, 40), ways[0], (0, 0)):
                for hue in (0, hues[0], HUGE):
                    self.assertEqual(refusal(next_way, ways + [more], hues + [hue]), ("NoWay", len(ways)))

    def test_hues_that_are_not_right(self):
        refused = 0
        for giver in GIVERS:
            ways, hues = play(giver)
            for at in range(len(ways)):
                for hue in sorted(met(ways[:at + 1], hues[:at])):
                    wrong = hues[:at] + [hue]
                    refused += 1
                    self.assertEqual(refusal(next_way, ways[:at + 1], wrong), ("NoHues", None))
                    # A way that was not told goes ahead, also one behind hues for which none is told.
                    self.assertEqual(refusal(next_way, ways[:at] + [(0, 40)], wrong), ("NoWay", at))
                    for way in ((0, 1), ways[0], ways[-1], (0, 0)):
                        self.assertEqual(
                            refusal(next_way, ways[:at + 1] + [way], wrong + [HUGE]), ("NoWay", at + 1)
                        )
        self.assertGreater(refused, 10)

    def test_what_is_refused_changes_nothing(self):
        ways, hues = play(most_often)
        told = next_way(ways[:5], hues[:5])
        refusal(next_way, ways[:5], hues[:4])
        refusal(next_way, [(0, 0)] * 5, hues[:5])
        self.assertEqual(next_way(ways[:5], hues[:5]), told)
