import copy
import itertools
import unittest

from sinceply.errors import NoLayers
from sinceply.pared import pared
from sinceply.placepared import place_pared
from tests.helpers import (
    MOST, all_lists_unlike, cleared, joined, lead_apart_by_places, least_parting, no_number_within, some_record,
    without_places,
)

SQUARE = [(1, 0, 1), (2, 1, 2), (3, 2, 3), (4, 0, 3), (5, 0, 2)]


def kept_by_the_words(n, record, k):
    kept = list(record)
    for tie in record:
        others = [other for other in kept if other != tie]
        if tie[1] == tie[2] or least_parting(n, others, tie[1], tie[2]) >= k:
            kept = others
    return kept


def records_in_bounds():
    for seed, (n, count) in enumerate(itertools.product(range(1, 8), (0, 1, 3, 7, 12, 25, 60))):
        yield n, some_record(2200 + seed, n, count)
    for seed, (n, count) in enumerate(itertools.product((8, 9, 10), (0, 4, 7))):
        yield n, some_record(2300 + seed, n, count)


class TestPlacePared(unittest.TestCase):
    def look_at(self, n, record, k):
        told = place_pared(n, record, k)
        self.assertEqual([type(told)] + [type(part) for part in told], [tuple, list, list])
        kept = kept_by_the_words(n, record, k)
        self.assertEqual(told[0], [tie[0] for tie in kept])
        gone = [tie for tie in record if tie not in kept]
        self.assertEqual(len(told[1]), len(gone))
        for tie, ways in zip(gone, told[1]):
            self.assertIs(type(ways), list)
            if tie[1] == tie[2]:
                self.assertEqual(ways, [[]] * k)
            else:
                self.assertEqual(len(ways), k)
                self.assertTrue(lead_apart_by_places(kept, tie[1], tie[2], ways), (n, record, k, told))

    def test_examples(self):
        self.assertEqual(place_pared(4, SQUARE, 1), ([2, 4, 5], [[[5, 2]], [[5, 4]]]))
        kept, ways = place_pared(4, SQUARE, 2)
        self.assertEqual((kept, [sorted(some) for some in ways]), ([1, 2, 3, 4], [[[1, 2], [4, 3]]]))
        self.assertEqual(place_pared(4, SQUARE, 3), ([1, 2, 3, 4, 5], []))

    def test_from_the_oldest_on(self):
        triangle = [(1, 0, 1), (2, 1, 2), (3, 0, 2)]
        self.assertEqual(place_pared(3, triangle, 1), ([2, 3], [[[3, 2]]]))
        self.assertEqual(place_pared(3, triangle, 2), ([1, 2, 3], []))
        self.assertEqual(place_pared(2, [(moment, 0, 1) for moment in range(5)], 2)[0], [3, 4])

    def test_otherwise_than_by_ties(self):
        # Between 0 and 2 are two ways without a tie in common beside the tie of moment 1, yet both go through place 1.
        record = [(1, 0, 2), (2, 0, 1), (3, 0, 1), (4, 1, 2), (5, 1, 2)]
        self.assertEqual(pared(3, record, 2)[0], [2, 3, 4, 5])
        self.assertEqual(place_pared(3, record, 2)[0], [1, 3, 5])

    def test_without_ties(self):
        for n in (1, 7, 8, 10):
            for k in range(1, 7):
                self.assertEqual(place_pared(n, [], k), ([], []))

    def test_ties_from_a_place_to_itself(self):
        for k in range(1, 7):
            self.assertEqual(place_pared(1, [(0, 0, 0), (MOST, 0, 0)], k), ([], [[[]] * k, [[]] * k]))
            record = [(0, 0, 0), (1, 0, 1), (2, 1, 1)]
            self.assertEqual(place_pared(2, record, k), ([1], [[[]] * k, [[]] * k]))

    def test_ways_by_what_is_kept_at_the_end(self):
        record = [(moment, 0, 1) for moment in range(1, 6)]
        told = place_pared(2, record, 2)
        self.assertEqual([sorted(ways) for ways in told[1]], [[[4], [5]]] * 3)

    def test_by_the_words(self):
        for n, record in records_in_bounds():
            for k in range(1, 7):
                self.look_at(n, record, k)

    def test_whichever_fewer_than_k_places_are_gone(self):
        for n, record in records_in_bounds():
            for k in (1, 2, 3, 5) if len(record) < 20 else (2, 4):
                moments = place_pared(n, record, k)[0]
                kept = [tie for tie in record if tie[0] in moments]
                for size in range(min(k, n - 1)):
                    for gone in itertools.combinations(range(n), size):
                        self.join_the_same(n, without_places(record, gone), without_places(kept, gone))

    def join_the_same(self, n, ties, kept):
        for a, b in itertools.combinations(range(n), 2):
            self.assertEqual(joined(kept, a, b), joined(ties, a, b))

    def test_no_kept_tie_can_be_left_out(self):
        for n, record in records_in_bounds():
            for k in (1, 2, 3, 6):
                moments = place_pared(n, record, k)[0]
                kept = [tie for tie in record if tie[0] in moments]
                for tie in kept:
                    others = [other for other in kept if other != tie]
                    self.assertLess(least_parting(n, others, tie[1], tie[2]), k)

    def test_no_layers(self):
        for k in no_number_within(1, 6):
            for record in ([], [(1, 0, 0)], SQUARE):
                with self.assertRaises(NoLayers):
                    place_pared(4, record, k)

    def test_what_is_told_is_the_askers_own(self):
        for n, record in records_in_bounds():
            own = copy.deepcopy(record)
            told = place_pared(n, own, 2)
            before = copy.deepcopy(told)
            self.assertTrue(all_lists_unlike(told))
            cleared(told)
            self.assertEqual(own, record)
            self.assertEqual(place_pared(n, own, 2), before)
