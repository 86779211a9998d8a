"""Point 15: odd lots, and how many hues they show to be needed."""

import itertools
import unittest

from tests.samples import HUGE, drawn_pairs, pair_loads, refusal
from tiehues.crossings import best_lot, cross_hues, lot_bound

TRIANGLE = [(0, 1), (0, 2), (1, 2)]


def needed(pairs, lot):
    """The least number of hues for the pairs within a lot, so many to each as its half, counted up."""
    within = sum(1 for s, t in pairs if s != t and s in lot and t in lot)
    return next(hues for hues in itertools.count() if hues * (len(lot) // 2) >= within)


def all_lots(many):
    return [list(lot) for size in range(3, many + 1, 2) for lot in itertools.combinations(range(many), size)]


def searched(crossing):
    many, pairs = crossing
    shown = [(max(pair_loads(crossing), default=0), 0, [])]
    shown += [(needed(pairs, lot), len(lot), lot) for lot in all_lots(many)]
    best = max(row[0] for row in shown)
    return (best, min((row for row in shown if row[0] == best), key=lambda row: row[1:])[2])


class LotBound(unittest.TestCase):
    def test_by_hand(self):
        self.assertEqual(lot_bound((3, []), [0, 1, 2]), 0)
        self.assertEqual(lot_bound((3, TRIANGLE), [0, 1, 2]), 3)
        self.assertEqual(lot_bound((3, TRIANGLE + [(0, 0), (2, 2)]), [0, 1, 2]), 3)
        self.assertEqual(lot_bound((4, TRIANGLE + [(0, 3)]), [0, 1, 2]), 3)
        self.assertEqual(lot_bound((4, TRIANGLE + [(0, 3)]), [1, 2, 3]), 1)
        self.assertEqual(lot_bound((5, [(0, 1)]), [0, 1, 2, 3, 4]), 1)

    def test_rounded_up(self):
        sides = list(itertools.combinations(range(7), 2))
        for count in range(22):
            self.assertEqual(lot_bound((7, sides[:count]), list(range(7))), (count + 2) // 3)
        fives = list(itertools.combinations(range(5), 2)) * 6
        for count in range(61):
            self.assertEqual(lot_bound((60, fives[:count]), [0, 1, 2, 3, 4]), (count + 1) // 2)
            self.assertEqual(lot_bound((60, fives[:count]), [1, 3, 59]), fives[:count].count((1, 3)))

    def test_a_lot_of_many_ties(self):
        pairs = [(k, k + 1) for k in range(58)] + [(0, 58), (59, 59)]
        self.assertEqual(lot_bound((60, pairs), list(range(59))), 3)
        self.assertEqual(lot_bound((60, [(0, 58)]), list(range(59))), 1)

    def test_all_lots(self):
        for many in (3, 4, 5, 7):
            for seed in range(12):
                pairs = drawn_pairs(many, 5 * seed, seed)
                for lot in all_lots(many):
                    self.assertEqual(lot_bound((many, pairs), lot), needed(pairs, lot), (many, pairs, lot))

    def test_no_lots(self):
        wrong = [
            [], [0], [5], [0, 1], [0, 1, 2, 3], [0, 1, 2, 3, 4, 5], [0, 0, 1], [0, 1, 1], [1, 1, 1], [2, 1, 0],
            [0, 2, 1], [1, 0, 2], [-1, 0, 1], [0, 1, 6], [4, 5, 6], [0, 1, HUGE], [-HUGE, 0, 1], [0, 1, 2, 3, 3],
            [0, 1, 2, 4, 3], [0, 1, 2, 3, 4, 5, 6], [-1, 0, 1, 2, 3],
        ]
        for pairs in ([], [(0, 1)], TRIANGLE * 20):
            for lot in wrong:
                self.assertEqual(refusal(lot_bound, (6, pairs), lot), ("NoLot",), lot)

    def test_too_few_ties_for_a_lot(self):
        for many in (0, 1, 2):
            for lot in ([], [0], [0, 1], [0, 1, 2]):
                self.assertEqual(refusal(lot_bound, (many, []), lot), ("NoLot",))

    def test_each_list_of_three(self):
        for lot in itertools.product(range(-1, 5), repeat=3):
            is_lot = 0 <= lot[0] < lot[1] < lot[2] < 4
            told = refusal(lot_bound, (4, TRIANGLE), list(lot))
            self.assertEqual(told, None if is_lot else ("NoLot",), lot)


class BestLot(unittest.TestCase):
    def check(self, crossing):
        told = best_lot(crossing)
        self.assertIsInstance(told, tuple)
        self.assertEqual(told, searched(crossing), crossing)
        self.assertIsInstance(told[1], list)
        self.assertGreaterEqual(len(set(cross_hues(crossing))), told[0])

    def test_no_pairs(self):
        for many in range(13):
            self.assertEqual(best_lot((many, [])), (0, []))

    def test_by_hand(self):
        self.assertEqual(best_lot((3, TRIANGLE)), (3, [0, 1, 2]))
        self.assertEqual(best_lot((3, TRIANGLE * 20)), (60, [0, 1, 2]))
        self.assertEqual(best_lot((3, TRIANGLE + [(0, 0)])), (3, []))
        self.assertEqual(best_lot((12, [(9, 10), (9, 11), (10, 11)])), (3, [9, 10, 11]))
        self.assertEqual(best_lot((6, [(3, 4), (3, 5), (4, 5)] + TRIANGLE)), (3, [0, 1, 2]))
        self.assertEqual(best_lot((2, [(0, 1)] * 60)), (60, []))
        self.assertEqual(best_lot((1, [(0, 0)] * 5)), (5, []))

    def test_five_ties_are_needed(self):
        ring = [(0, 1), (1, 2), (2, 3), (3, 4), (0, 4)]
        self.assertEqual(best_lot((5, ring)), (3, [0, 1, 2, 3, 4]))
        self.assertEqual(best_lot((7, [(s + 2, t + 2) for s, t in ring])), (3, [2, 3, 4, 5, 6]))
        # A shorter lot that shows as much goes ahead, whatever its numbers.
        both = ring + [(5, 6), (5, 7), (6, 7)]
        self.assertEqual(best_lot((8, both)), (3, [5, 6, 7]))

    def test_all_small_ones(self):
        kinds = list(itertools.combinations_with_replacement(range(4), 2))
        for pairs in itertools.combinations_with_replacement(kinds, 4):
            self.check((4, list(pairs)))

    def test_drawn(self):
        for many in range(3, 10):
            for seed in range(10):
                for count in (5, 20, 60):
                    self.check((many, drawn_pairs(many, count, seed)))
                    self.check((many, drawn_pairs(many, count, seed, alone=False)))

    def test_twelve_ties(self):
        for seed in range(3):
            self.check((12, drawn_pairs(12, 60, seed, alone=False)))
            self.check((12, [(s + 7, t + 7) for s, t in drawn_pairs(5, 60, seed, alone=False)]))
        self.check((12, [(s, s + 1) for s in range(10)] * 2 + [(0, 10)] * 2))

    def test_more_than_twelve_ties(self):
        for many in (13, 14, 60):
            for pairs in ([], [(0, 12)], TRIANGLE):
                self.assertEqual(refusal(best_lot, (many, pairs)), ("TooMany",))

    def test_the_lot_is_the_askers_own(self):
        told = best_lot((3, TRIANGLE))
        told[1].append(7)
        self.assertEqual(best_lot((3, TRIANGLE)), (3, [0, 1, 2]))
