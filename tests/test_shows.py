"""Point 11: what shows that the hues are right and few."""

import unittest

from tests.samples import (
    HUGE, NETS, WRONG_NETS, counted_loads, drawn_ways, first_clash, level_hues, line_rows, refusal, wrong_ways,
)
from tiehues.givers import Giver, shows

LINE = ("line", 4)
WAYS = [(0, 2), (2, 0), (2, 3), (1, 3)]
# The last level isn't that of point 8, which is 3, but it shows as much.
LINES = [(1, 0, 0), (2, 0, 1), (1, 2, 0), (2, 2, 2)]


def told_lines(net, ways):
    giver = Giver(net)
    for way in ways:
        giver.put(way)
    return [(giver.levels()[at], giver.own_tie(at), giver.hues()[at]) for at in range(len(ways))]


def is_so(rows, lines, at):
    """Point 11 word by word, of one way."""
    level, tie, hue = lines[at]
    if not (level >= 1 and tie in rows[at]):
        return False
    on_tie = [k for k in range(min(len(rows), len(lines))) if k != at and tie in rows[k]]
    lesser = [k for k in on_tie if k < at and lines[k][0] < level]
    same = [k for k in on_tie if lines[k][0] == level]
    met = [lines[k][2] for k in range(at) if rows[k] & rows[at]]
    hues = level_hues(level)
    return len(lesser) == level - 1 and not same and hue in hues and hue not in met


def first_wrong(ways, lines):
    rows = line_rows(ways)
    for at in range(min(len(ways), len(lines))):
        if not is_so(rows, lines, at):
            return at
    return None if len(ways) == len(lines) else len(ways)


def put_in(lines, at, line):
    return lines[:at] + [line] + lines[at + 1:]


def bent(lines, at):
    """The lines with one thing of one line bent."""
    level, tie, hue = lines[at]
    for other in (level - 1, level + 1, 0, -1, level + 3, HUGE, -HUGE):
        yield put_in(lines, at, (other, tie, hue))
        yield put_in(lines, at, (other, tie, 3 * other - 4))
    for other in (tie - 1, tie + 1, -1, 0, 59, HUGE, -HUGE):
        yield put_in(lines, at, (level, other, hue))
    for other in (hue - 1, hue + 1, hue + 2, hue - 2, hue + 3, 0, 1, -1, HUGE, -HUGE):
        yield put_in(lines, at, (level, tie, other))


def moved(lines, at):
    """The lines with one left out, told twice, or exchanged with another."""
    yield lines[:at] + lines[at + 1:]
    yield lines[:at] + [lines[at]] + lines[at:]
    for other in range(at):
        changed = list(lines)
        changed[at], changed[other] = lines[other], lines[at]
        yield changed


class Shows(unittest.TestCase):
    def check(self, net, ways, lines):
        told = shows(net, ways, lines)
        self.assertEqual(told, first_wrong(ways, lines), (net, ways, lines))
        if told is None:
            hues = [line[2] for line in lines]
            self.assertIsNone(first_clash(net, ways, hues))
            self.assertLessEqual(len(set(hues)), max(0, 3 * max(counted_loads(net, ways)) - 2))
        return told

    def test_no_ways(self):
        for many in (2, 3, 60):
            self.assertIsNone(shows(("line", many), [], []))
            self.assertEqual(shows(("line", many), [], [(1, 0, 0)]), 0)
            self.assertEqual(shows(("line", many), [], [(0, 0, 0)] * 3), 0)

    def test_by_hand(self):
        self.assertIsNone(shows(LINE, WAYS, LINES))
        self.assertIsNone(shows(LINE, WAYS, put_in(LINES, 3, (3, 1, 5))))
        # With the second way's tie at 1 the last one, behind it and of its level, lies there.
        self.assertEqual(shows(LINE, WAYS, put_in(LINES, 1, (2, 1, 1))), 1)
        self.assertEqual(shows(LINE, WAYS, put_in(LINES, 0, (1, 2, 0))), 0)
        self.assertEqual(shows(LINE, WAYS, put_in(LINES, 0, (0, 0, 0))), 0)
        self.assertEqual(shows(LINE, WAYS, put_in(LINES, 2, (1, 2, 1))), 2)
        self.assertEqual(shows(LINE, WAYS, put_in(LINES, 3, (2, 2, 1))), 3)
        self.assertEqual(shows(LINE, WAYS, put_in(LINES, 3, (2, 1, 2))), 3)
        self.assertEqual(shows(LINE, WAYS, put_in(LINES, 3, (1, 1, 0))), 2)
        self.assertEqual(shows(LINE, WAYS, put_in(LINES, 3, (1, 2, 0))), 2)

    def test_fewer_tuples(self):
        self.assertEqual(shows(LINE, WAYS, []), 4)
        self.assertEqual(shows(LINE, WAYS, LINES[:3]), 4)
        self.assertEqual(shows(LINE, WAYS, LINES[:2]), 4)
        # The last way, without a tuple, is of no level: it doesn't stand in the second one's way.
        self.assertEqual(shows(LINE, WAYS, put_in(LINES, 1, (2, 1, 1))[:3]), 4)
        self.assertEqual(shows(LINE, WAYS, [(1, 0, 0), (2, 2, 1)]), 1)
        self.assertEqual(shows(LINE, WAYS, [(2, 0, 1)]), 0)

    def test_more_tuples(self):
        self.assertEqual(shows(LINE, WAYS, LINES + [(1, 0, 0)]), 4)
        self.assertEqual(shows(LINE, WAYS, LINES + [(-1, HUGE, -5)] * 3), 4)
        self.assertEqual(shows(LINE, WAYS, put_in(LINES, 2, (1, 2, 1)) + [(2, 0, 1)]), 2)

    def test_thirty_figures(self):
        for line in ((HUGE, 0, 0), (1, HUGE, 0), (1, 0, HUGE), (HUGE, 0, 3 * HUGE - 4), (HUGE, HUGE, HUGE)):
            for at in range(4):
                self.assertIsNotNone(self.check(LINE, WAYS, put_in(LINES, at, line)))
                self.assertIsNotNone(self.check(LINE, WAYS, put_in(LINES, at, tuple(-part for part in line))))

    def test_what_a_giver_tells(self):
        for many in (2, 3, 5, 12, 60):
            for count in (1, 2, 7, 40):
                ways = drawn_ways(("line", many), count, many)
                self.assertIsNone(self.check(("line", many), ways, told_lines(("line", many), ways)))

    def test_bent(self):
        wrong = 0
        for many, count, seed in ((2, 5, 0), (3, 9, 1), (8, 14, 2), (60, 14, 3), (20, 40, 4)):
            net = ("line", many)
            ways = drawn_ways(net, count, seed)
            lines = told_lines(net, ways)
            for at in range(0, count, 1 + count // 15):
                for changed in bent(lines, at):
                    wrong += self.check(net, ways, changed) is not None
        self.assertGreater(wrong, 500)

    def test_left_out_told_twice_exchanged(self):
        for many, count, seed in ((2, 5, 0), (3, 9, 1), (8, 14, 2), (60, 14, 3)):
            net = ("line", many)
            ways = drawn_ways(net, count, seed)
            lines = told_lines(net, ways)
            for at in range(count):
                for changed in moved(lines, at):
                    self.check(net, ways, changed)

    def test_the_first_of_several(self):
        for at in range(4):
            lines = LINES[:at] + [(0, 0, 0)] * (4 - at)
            self.assertEqual(shows(LINE, WAYS, lines), self.check(LINE, WAYS, lines))
        self.assertEqual(shows(LINE, WAYS, LINES[:2] + [(0, 0, 0)] * 2), 2)
        self.assertEqual(shows(LINE, WAYS, [(5, 5, 5)] * 9), 0)


class Refusals(unittest.TestCase):
    def test_nets(self):
        for ways in ([], [(0, 1)], [(0, 0)]):
            for net in NETS:
                if net[0] != "line":
                    self.assertEqual(refusal(shows, net, ways, []), ("OtherNet",), net)
            for net in WRONG_NETS:
                self.assertEqual(refusal(shows, net, ways, [(1, 0, 0)]), ("NoNet",), net)

    def test_the_first_way_that_is_none(self):
        for net in (("line", 2), ("line", 5), ("line", 60)):
            for way in wrong_ways(net):
                for at in (0, 1, 38):
                    ways = [(0, 1)] * at + [way, (0, 0)]
                    for lines in ([], [(0, 0, 0)], [(1, 0, 0)] * (at + 2)):
                        self.assertEqual(refusal(shows, net, ways, lines), ("NoWay", at), (net, way))

    def test_more_than_forty_ways_are_no_fault(self):
        ways = [(k % 50, k % 50 + 1) for k in range(45)]
        self.assertIsNone(shows(("line", 60), ways, [(1, k % 50, 0) for k in range(45)]))
