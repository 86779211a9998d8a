"""Point 2: what is handed in is kept, and what is told is the asker's own."""

import copy
import unittest

from tests.samples import NETS, RING, ROUND, SIDES, STAR, drawn_pairs, drawn_ways, places_of, refusal
from tiehues.both import turned_hues, turned_judged
from tiehues.cases import case_judged, case_of
from tiehues.crossings import best_lot, cross_hues, lot_bound
from tiehues.fewest import fewest, fewest_judged
from tiehues.forcer import next_way
from tiehues.givers import Giver, shows
from tiehues.lines import line_hues
from tiehues.nets import clash, load, loads, look_net, ties_of, used
from tiehues.papers import told_of, told_words
from tiehues.rings import ring_hues
from tiehues.texts import net_text, read_net
from tiehues.trees import crossing_at, join_hues, tree_hues
from tiehues.turning import least_load, parted, short_turning, turn_judged, turned


def asked_of_nets():
    for net in NETS:
        right = drawn_ways(net, 12, 5)
        yield look_net, net
        yield ties_of, net, right[0]
        for ways in (right, right + [(0, 0)]):
            yield loads, net, ways
            yield load, net, ways
            yield line_hues, net, ways
            for hues in (list(range(12)), [3, -1, 3], [5] * 13):
                yield clash, net, ways, hues
                yield used, hues
    yield look_net, ("tree", [0, 2, 1])


def asked_of_lines():
    for many in (2, 5, 60):
        giver = Giver(("line", many))
        hues = [giver.put(way) for way in drawn_ways(("line", many), 12, 6)]
        told = [(giver.levels()[at], giver.own_tie(at), hue) for at, hue in enumerate(hues)]
        for lines in (told, told[:5], told + [(1, 0, 0)], [(1, 0, 0)] * 12):
            yield shows, ("line", many), giver.ways(), lines
    giver = Giver(("line", 41))
    while (way := next_way(giver.ways(), giver.hues())) is not None:
        yield next_way, giver.ways(), giver.hues()
        giver.put(way)
    yield next_way, giver.ways(), giver.hues()
    yield next_way, giver.ways()[::-1], giver.hues()
    yield next_way, giver.ways(), giver.hues()[1:]


def asked_of_crossings():
    for many in (3, 5, 12, 13):
        for pairs in ([], drawn_pairs(many, 30, 7), drawn_pairs(many, 60, 8, alone=False), [(1, 0)]):
            yield cross_hues, (many, pairs)
            yield best_lot, (many, pairs)
            for lot in ([0, 1, 2], [2, 1, 0]):
                yield lot_bound, (many, pairs), lot
    yield best_lot, (5, [(0, 1), (1, 2), (0, 2)] * 3)


def asked_of_trees():
    for net in NETS:
        right = drawn_ways(net, 12, 9)
        for ways in (right, right + [(0, 0)]):
            yield tree_hues, net, ways
            for place in (0, 1, places_of(net) - 1, -1):
                yield crossing_at, net, ways, place
        if net[0] == "tree":
            found = [crossing_at(net, right, place)[0] for place in range(places_of(net))]
            lists = [cross_hues(crossing) for crossing in found]
            for told in (lists, lists[:-1], lists + [[]], [[0]] + lists[1:]):
                yield join_hues, net, right, told


def asked_of_cases():
    for net in NETS:
        for ways in ([], drawn_ways(net, 6, 10), drawn_ways(net, 8, 11), [(0, 1)] * 13):
            for h in (-1, 0, 1, 2, 3):
                yield case_of, net, ways, h
            yield case_judged, net, ways, 1, (0, [(1, [()])])
            yield fewest, net, ways
    for net, ways in ((RING, ROUND), (STAR, SIDES), (STAR, SIDES * 4)):
        told = fewest(net, ways)
        case = case_of(net, ways[:8], 2)
        yield fewest, net, ways
        yield case_of, net, ways[:8], 2
        for things in (case, (0, [case]), list(case)):
            yield case_judged, net, ways[:8], 2, things
            yield fewest_judged, net, ways, told[:2] + (("case", things),)
        for things in (told, told + ([],), told[:2] + ([told[2]],), list(told), (told[0], [told[1]], [])):
            yield fewest_judged, net, ways, things
            yield fewest_judged, net, ways + [(0, 0)], things


def asked_of_rings():
    for net in NETS:
        right = drawn_ways(net, 7, 12)
        for ways in ([], right, right * 3, [(0, 1), (1, 0)], [(0, 0)]):
            yield ring_hues, net, ways
            yield short_turning, net, ways
            yield least_load, net, ways
            for turning in ([0] * len(ways), [1] * len(ways), [0]):
                yield turned, net, ways, turning
            yield parted, net, ways, 0, 1
            yield parted, net, ways, 0, -1
        if net[0] == "ring":
            paper = least_load(net, right)[2]
            for thing in (paper, [paper, [[]]], (0, [paper], [paper])):
                for m in (-1, 0, least_load(net, right)[0] - 1):
                    yield turn_judged, net, right, m, thing


def asked_of_both():
    for net in NETS:
        for ways in ([], drawn_ways(net, 5, 13), [(0, 1)] * 8, [(0, 0)]):
            yield turned_hues, net, ways
            yield turned_judged, net, ways, (0, [], [], ("none",))
    for net, ways in ((RING, ROUND), (("ring", 4), [(0, 2), (1, 3), (0, 2)]), (("ring", 3), [])):
        told = turned_hues(net, ways)
        yield turned_hues, net, ways
        for thing in (told, list(told), told[:3] + ([told[3]],), (told[0], [told[1]], [], []), told + ([],)):
            yield turned_judged, net, ways, thing


def asked_of_texts():
    for net in NETS:
        for ways in ([], drawn_ways(net, 6, 14), [(0, 0)]):
            for hues in (None, list(range(len(ways))), [-1]):
                yield net_text, net, ways, hues
        ways = drawn_ways(net, 6, 15)
        for text in (net_text(net, ways, None), net_text(net, ways, [5, 4, 3, 2, 1, 0]), net_text(net, [], []), "",
                     "x"):
            yield read_net, text
    for net, ways in ((RING, ROUND), (STAR, SIDES), (STAR, [])):
        for told in (fewest(net, ways), turned_hues(RING, ROUND), (0, [], [3], ("lot", 0, [1]))):
            yield told_words, told
            yield told_words, list(told)
            yield told_words, told[:-1] + ([told[-1]],)
            yield told_of, told_words(told)
            yield told_of, told_words(told) + " "


def calls():
    for asked in (
        asked_of_nets, asked_of_lines, asked_of_crossings, asked_of_trees, asked_of_cases, asked_of_rings,
        asked_of_both,
        asked_of_texts,
    ):
        for function, *things in asked():
            yield function, copy.deepcopy(things)


def answer(function, things):
    refused = refusal(function, *things)
    return function(*things) if refused is None else refused


def lists_in(thing):
    """All lists in a thing, each as often as it stands."""
    if not isinstance(thing, (list, tuple)):
        return []
    return [thing] * isinstance(thing, list) + [found for part in thing for found in lists_in(part)]


def spoil(thing):
    for told in lists_in(thing):
        told.reverse()
        told.append(99)


class Kept(unittest.TestCase):
    def test_nothing_handed_in_is_changed(self):
        for function, things in calls():
            before = copy.deepcopy(things)
            answer(function, things)
            self.assertEqual(things, before, function.__name__)

    def test_told_lists_are_the_askers_own(self):
        for function, things in calls():
            before = copy.deepcopy(things)
            told = answer(function, things)
            first = copy.deepcopy(told)
            spoil(told)
            self.assertEqual(things, before, function.__name__)
            self.assertEqual(answer(function, things), first, function.__name__)

    def test_told_lists_are_new_ones(self):
        for function, things in calls():
            told = answer(function, things)
            again = answer(function, things)
            places = [id(found) for found in lists_in((told, again, tuple(things)))]
            self.assertEqual(len(places), len(set(places)), function.__name__)

    def test_what_is_handed_in_may_change_behind(self):
        for function, things in calls():
            told = answer(function, things)
            first = copy.deepcopy(told)
            spoil(things)
            self.assertEqual(told, first, function.__name__)

    def test_nothing_asked_later_changes_it(self):
        told = []
        for function, things in calls():
            told.append((function, answer(function, things)))
        kept = copy.deepcopy(told)
        for function, things in calls():
            spoil(answer(function, things))
        self.assertEqual(told, kept)

    def test_the_same_each_time(self):
        for function, things in calls():
            told = [answer(function, copy.deepcopy(things)) for turn in range(3)]
            self.assertEqual(told[1:], told[:1] * 2, function.__name__)

    def test_both_answers_and_refusals_are_asked(self):
        found = {}
        for function, things in calls():
            found.setdefault(function, set()).add(refusal(function, *things) is None)
        for function, kinds in found.items():
            self.assertEqual(kinds, {True} if function in (used, ties_of, shows) else {True, False}, function)
