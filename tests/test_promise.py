"""Point 3, over the whole: what the judges let by is right, and what the program tells is let by."""

import itertools
import random
import unittest

from tests.readings import are_right_hues, fewest_hues, fewest_turned, lightest, rows_of, turned_rows
from tests.samples import RING, ROUND, SIDES, SMALL_NETS, STAR, all_ways, drawn_ways, places_of
from tiehues.both import turned_hues, turned_judged
from tiehues.cases import case_of
from tiehues.crossings import cross_hues
from tiehues.desk import Desk
from tiehues.fewest import fewest, fewest_judged
from tiehues.forcer import next_way
from tiehues.givers import Giver
from tiehues.lines import line_hues
from tiehues.nets import clash, load, used
from tiehues.papers import told_of, told_words
from tiehues.rings import ring_hues
from tiehues.texts import net_text, read_net
from tiehues.trees import crossing_at, join_hues, tree_hues
from tiehues.turning import least_load, short_turning, turned

NETS = SMALL_NETS + [("ring", 8), ("tree", [0] * 6), ("tree", [0, 1, 1, 1, 2, 2, 0])]
WRITTEN = [
    (("line", 4), [(0, 2), (1, 3), (2, 3)]), (("ring", 3), [(0, 2), (1, 0), (2, 1)]), (RING, ROUND[:4]), (STAR, SIDES),
    (("ring", 4), [(0, 2), (1, 3), (2, 0)]), (("tree", [0, 0, 0, 1]), [(4, 2), (2, 3), (3, 4)]), (("ring", 4), []),
]


def written_cases(drawn, many, deep):
    """A case as anyone may write it, mostly of the right form."""
    if deep == 0 or drawn.random() < 0.35:
        return ()
    return (drawn.randrange(many), [written_cases(drawn, many, deep - 1) for turn in range(drawn.randint(0, 4))])


def written_papers(net, ways):
    """Papers of all kinds, right ones and wrong ones."""
    drawn = random.Random(len(ways))
    papers = [("none",)] + [("tie", tie) for tie in range(places_of(net))]
    papers += [("lot", place, [0, 1, 2]) for place in range(places_of(net))]
    papers += [("case", case_of(net, ways, h)) for h in range(len(ways))]
    papers += [("case", written_cases(drawn, max(len(ways), 1), 4)) for turn in range(200)]
    if net[0] == "ring":
        ties = range(net[1])
        papers += [("turn", ("ties", e, f)) for e in ties for f in ties]
        papers += [("turn", (0, ("ties", e, f), ("ties", f, g))) for e in ties for f in ties for g in ties]
        papers += [("turn", least_load(net, some)[2]) for some in (ways, ways[1:], ways + ways)]
        papers += [turned_hues(net, some)[3] for some in (ways, ways[1:], ways + ways[:2])]
    return papers


class LetBy(unittest.TestCase):
    def test_whoever_wrote_it(self):
        for net, ways in WRITTEN:
            least, let_by = fewest_hues(net, ways), 0
            papers = written_papers(net, ways)
            for hues in itertools.product(range(4), repeat=len(ways)):
                for h in range(5):
                    # Where the hues are wrong no paper makes up for it: a few of them are enough to ask about.
                    right = are_right_hues(rows_of(net, ways), h, list(hues))
                    for paper in papers if right else papers[:3]:
                        if fewest_judged(net, ways, (h, list(hues), paper)) is None:
                            self.assertEqual((h, right), (least, True))
                            let_by += 1
            self.assertGreater(let_by, 0)

    def test_whoever_wrote_it_of_turned_ways(self):
        for net, ways in WRITTEN:
            if net[0] != "ring":
                continue
            least, let_by = fewest_turned(net, ways), 0
            papers = written_papers(net, ways)
            lays = turned_rows(net, ways)
            for turning in itertools.product((0, 1), repeat=len(ways)):
                rows = [lay[turn] for lay, turn in zip(lays, turning)]
                for hues in itertools.product(range(3), repeat=len(ways)):
                    h = len(set(hues))
                    for paper in papers if are_right_hues(rows, h, list(hues)) else papers[:3]:
                        if turned_judged(net, ways, (h, list(turning), list(hues), paper)) is None:
                            self.assertEqual(h, least)
                            self.assertTrue(are_right_hues(rows, h, list(hues)))
                            let_by += 1
            self.assertGreater(let_by, 0)


class Told(unittest.TestCase):
    def test_it_is_let_by_also_as_words_at_a_desk(self):
        for net in NETS:
            for many in (0, 1, 3, 6):
                ways = drawn_ways(net, many, many)
                desk = Desk()
                head, *rows = net_text(net, ways, None).split("\n")[:-1]
                kind, rest = head.split(" ", 1)
                for row in [f"{kind} x {rest}"] + [row.replace("way", "way x") for row in rows]:
                    desk.say(row)
                told = fewest(net, ways)
                self.assertIsNone(fewest_judged(net, ways, told_of(told_words(told))))
                self.assertEqual(desk.say("judge x " + told_words(told)), "right")
                self.assertEqual(read_net(net_text(net, ways, told[1])), (net, ways, told[1]))
                if net[0] == "ring":
                    told = turned_hues(net, ways)
                    self.assertIsNone(turned_judged(net, ways, told_of(told_words(told))))
                    self.assertEqual(desk.say("judge x " + told_words(told)), "right")

    def test_on_a_line_the_fewest_are_the_load(self):
        for many in (2, 3, 5, 12, 60):
            for seed in range(8):
                ways = drawn_ways(("line", many), 12, seed)
                h, hues, paper = fewest(("line", many), ways)
                self.assertEqual((h, paper[0]), (load(("line", many), ways), "tie"))
                self.assertEqual(used(line_hues(("line", many), ways)[0]), h)

    def test_none_is_hued_anew(self):
        for seed in range(10):
            giver, hues = Giver(("line", 20)), []
            for way in drawn_ways(("line", 20), 40, seed):
                hues.append(giver.put(way))
                self.assertEqual(giver.hues(), hues)
                self.assertLessEqual(used(hues), 3 * load(("line", 20), giver.ways()) - 2)

    def test_any_giver_needs_four(self):
        giver = Giver(("line", 41))
        while (way := next_way(giver.ways(), giver.hues())) is not None:
            giver.put(way)
        self.assertGreaterEqual(used(giver.hues()), 4)
        self.assertLessEqual(load(("line", 41), giver.ways()), 2)

    def test_a_tree_needs_as_many_as_its_worst_place(self):
        for net in NETS:
            if net[0] != "tree":
                continue
            for seed in range(8):
                ways = drawn_ways(net, 7, seed)
                places = [crossing_at(net, ways, place) for place in range(places_of(net))]
                lists = []
                for (many, pairs), numbers in places:
                    star = ("tree", [0] * max(many, 1))
                    at_place = [(s + 1, t + 1 if s != t else 0) for s, t in pairs]
                    self.assertLessEqual(used(cross_hues((many, pairs))), 3 * load(star, at_place) // 2)
                    h, hues, paper = fewest(star, at_place)
                    lists.append([sorted(set(hues)).index(hue) for hue in hues])
                worst = max(used(hues) for hues in lists)
                self.assertEqual(fewest(net, ways)[0], worst)
                self.assertEqual(used(join_hues(net, ways, lists)), worst)
                self.assertLessEqual(used(tree_hues(net, ways)), 3 * load(net, ways) // 2)

    def test_on_a_ring(self):
        for many in (3, 4, 5, 7, 9):
            net = ("ring", many)
            for seed in range(10):
                ways = drawn_ways(net, 6, seed)
                h, hues, paper = fewest(net, ways)
                self.assertLessEqual(h, used(ring_hues(net, ways)))
                self.assertLess(used(ring_hues(net, ways)), 2 * load(net, ways))
                heaviest, turning, paper = least_load(net, ways)
                both = turned_hues(net, ways)
                self.assertEqual(heaviest, lightest(net, ways))
                self.assertLessEqual(heaviest, both[0])
                self.assertLessEqual(both[0], h)
                self.assertIsNone(clash(net, turned(net, ways, both[1]), both[2]))
                short = turned(net, ways, short_turning(net, ways))
                self.assertLessEqual(load(net, short), 2 * heaviest)

    def test_all_small_ones(self):
        for net in (("line", 3), ("ring", 3), ("tree", [0, 0])):
            for ways in itertools.product(all_ways(net), repeat=3):
                told = fewest(net, list(ways))
                self.assertIsNone(fewest_judged(net, list(ways), told))
                self.assertEqual(told[0], fewest_hues(net, ways))
