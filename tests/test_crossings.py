"""Points 13 and 14: crossings, and hues for their pairs."""

import itertools
import unittest

from tests.samples import WRONG_CROSSINGS, drawn_pairs, level_pairs, pair_loads, refusal, right_pairs
from tiehues.crossings import best_lot, cross_hues, lot_bound

# In some of their orders no free hue is left for a pair until others get new ones.
KNOTTY = (
    [(2, 3), (2, 2), (0, 3), (0, 0), (0, 1), (1, 2), (1, 3)],
    [(0, 2), (2, 2), (3, 3), (0, 3), (1, 2), (1, 3), (0, 1)],
    [(0, 2), (0, 0), (1, 2), (1, 1), (1, 3), (2, 3), (0, 3)],
)


class CrossHues(unittest.TestCase):
    def check(self, crossing):
        hues = cross_hues(crossing)
        self.assertIsInstance(hues, list)
        self.assertTrue(all(type(hue) is int for hue in hues))
        self.assertTrue(right_pairs(crossing, hues), (crossing, hues))
        bound = 3 * max(pair_loads(crossing), default=0) // 2
        self.assertTrue(all(hue < bound for hue in hues), (crossing, hues))

    def test_no_pairs(self):
        for many in (0, 1, 2, 59, 60):
            self.assertEqual(cross_hues((many, [])), [])

    def test_load_1(self):
        self.assertEqual(cross_hues((1, [(0, 0)])), [0])
        self.assertEqual(cross_hues((2, [(0, 1)])), [0])
        self.assertEqual(cross_hues((60, [(k, k) for k in range(60)])), [0] * 60)
        self.assertEqual(cross_hues((60, [(k, k + 30) for k in range(30)])), [0] * 30)

    def test_pairs_of_one_tie_alone(self):
        for many in (1, 2, 3, 60):
            self.check((many, [(k % many, k % many) for k in range(60)]))
        self.check((1, [(0, 0)] * 60))
        self.check((3, [(2, 2)] * 7 + [(0, 1)] * 7 + [(0, 2)]))

    def test_one_pair_many_times(self):
        for many in (2, 60):
            self.check((many, [(0, many - 1)] * 60))
            self.check((many, [(0, many - 1)] * 30 + [(0, 0)] * 15 + [(many - 1, many - 1)] * 15))

    def test_three_ties(self):
        sides = [(0, 1), (0, 2), (1, 2)]
        for times in range(1, 21):
            self.check((3, sides * times))
            self.check((3, [side for side in sides for turn in range(times)]))
            self.assertEqual(len(set(cross_hues((3, sides * times)))), 3 * times)
        for counts in itertools.product(range(4), repeat=6):
            kinds = itertools.combinations_with_replacement(range(3), 2)
            self.check((3, [pair for pair, count in zip(kinds, counts) for turn in range(count)]))

    def test_five_ties(self):
        sides = list(itertools.combinations(range(5), 2))
        for times in range(1, 7):
            self.check((5, sides * times))
            self.check((5, sides[::-1] * times))
            self.check((5, [(k, (k + 1)) for k in range(4)] * times + [(0, 4)] * times))

    def test_all_small_ones(self):
        for many, count in ((2, 5), (3, 4), (4, 3)):
            kinds = list(itertools.combinations_with_replacement(range(many), 2))
            for pairs in itertools.product(kinds, repeat=count):
                self.check((many, list(pairs)))

    def test_pairs_in_any_order(self):
        for pairs in KNOTTY:
            for turned in itertools.permutations(pairs):
                self.check((4, list(turned)))

    def test_drawn(self):
        for many in (2, 3, 4, 5, 6, 8, 12, 30, 60):
            for seed in range(30):
                for count in (10, 30, 60):
                    self.check((many, drawn_pairs(many, count, seed)))
                    self.check((many, drawn_pairs(many, count, seed, alone=False)))

    def test_each_tie_with_the_same_load(self):
        for many in (3, 4, 5, 7, 10):
            for load in (2, 3, 4, 5):
                for seed in range(150):
                    self.check((many, level_pairs(many, load, seed)))

    def test_the_same_each_time(self):
        crossing = (5, drawn_pairs(5, 40, 1))
        self.assertEqual(cross_hues(crossing), cross_hues((5, list(crossing[1]))))


class NoCrossings(unittest.TestCase):
    def test_each_function(self):
        for crossing in WRONG_CROSSINGS:
            self.assertEqual(refusal(cross_hues, crossing), ("NoCrossing",), crossing)
            self.assertEqual(refusal(best_lot, crossing), ("NoCrossing",), crossing)
            for lot in ([0, 1, 2], [], [0], [2, 1, 0], [-1, 0, 1]):
                self.assertEqual(refusal(lot_bound, crossing, lot), ("NoCrossing",), (crossing, lot))

    def test_each_wrong_pair(self):
        for many in (0, 1, 3):
            for s in range(-2, many + 2):
                for t in range(-2, many + 2):
                    right = 0 <= s <= t < many
                    for at in range(3 if many else 1):
                        pairs = [(0, 0)] * at + [(s, t)]
                        told = refusal(cross_hues, (many, pairs))
                        self.assertEqual(told, None if right else ("NoCrossing",), (many, pairs))

    def test_the_edges(self):
        self.assertIsNone(refusal(cross_hues, (60, [(0, 59)] * 60)))
        self.assertIsNone(refusal(cross_hues, (60, [(59, 59)] * 60)))
        self.assertEqual(refusal(cross_hues, (60, [(0, 59)] * 61)), ("NoCrossing",))
        self.assertEqual(refusal(cross_hues, (61, [(0, 59)] * 60)), ("NoCrossing",))
        self.assertIsNone(refusal(cross_hues, (0, [])))
