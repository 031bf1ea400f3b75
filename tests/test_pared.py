import copy
import random
import unittest

from sinceply.errors import NoLayers
from sinceply.hangs import hang_of
from sinceply.pared import pared, pared_right
from tests.helpers import (
    MOST, all_lists_unlike, all_sides, cleared, lead_apart, least_rim, no_number_within, rim_by_the_words, some_record,
    some_records,
)

TRIANGLE = [(1, 0, 1), (2, 1, 2), (3, 0, 2)]
# For k 2: 1 goes, as its ends hang together twice without it; 2 is a place with itself; the rest stays.
RECORD = [(1, 0, 1), (2, 1, 1), (3, 1, 2), (4, 0, 2), (5, 0, 1), (6, 2, 3)]
RIGHT = ([3, 4, 5, 6], [[[5], [4, 3]], [[], []]], [(0, 1), (0,), (1,), (3,)])


def kept_by_the_words(n, record, k):
    kept = list(record)
    for tie in record:
        others = [other for other in kept if other != tie]
        if tie[1] == tie[2] or least_rim(n, others, tie[1], tie[2]) >= k:
            kept = others
    return kept


def triple_of(n, record, k, kept):
    ways, sides = [], []
    for tie in record:
        others = [other for other in kept if other != tie]
        if tie[1] == tie[2]:
            ways.append([[] for time in range(k)])
        elif tie in kept:
            sides.append(hang_of(n, others, tie[1], tie[2], k)[2])
        else:
            ways.append(hang_of(n, kept, tie[1], tie[2], k)[1])
    return ([tie[0] for tie in kept], ways, sides)


def right_by_the_words(n, record, k, told):
    moments, ways, sides = told
    kept = [tie for tie in record if tie[0] in moments]
    gone = [tie for tie in record if tie[0] not in moments]
    if moments != [tie[0] for tie in kept] or len(ways) != len(gone) or len(sides) != len(kept):
        return False
    for tie, some in zip(gone, ways):
        if len(some) != k or not lead_apart(kept, tie[1], tie[2], some) or (tie[1] == tie[2] and any(some)):
            return False
    for tie, side in zip(kept, sides):
        rim = rim_by_the_words(kept, side)
        if side != tuple(sorted(set(side) & set(range(n)))) or tie[0] not in rim or len(rim) > k:
            return False
    return True


class TestPared(unittest.TestCase):
    def look_at(self, n, record, k):
        told = pared(n, record, k)
        self.assertEqual([type(told)] + [type(part) for part in told], [tuple, list, list, list])
        self.assertEqual(told[0], [tie[0] for tie in kept_by_the_words(n, record, k)])
        self.assertTrue(right_by_the_words(n, record, k, told), (n, record, k, told))
        self.assertIs(pared_right(n, record, k, told), True)
        self.assertLessEqual(len(told[0]), k * (n - 1))

    def test_an_example(self):
        told = pared(4, RECORD, 2)
        self.assertEqual(told[0], [3, 4, 5, 6])
        self.assertEqual(told[1][1], [[], []])
        self.assertTrue(right_by_the_words(4, RECORD, 2, told))

    def test_from_the_oldest_on(self):
        self.assertEqual(pared(3, TRIANGLE, 1), ([2, 3], [[[3, 2]]], [(1,), (0,)]))
        self.assertEqual(pared(3, TRIANGLE, 2)[:2], ([1, 2, 3], []))
        self.assertEqual(pared(2, [(moment, 0, 1) for moment in range(5)], 2)[0], [3, 4])

    def test_without_ties(self):
        for n in (1, 10):
            for k in range(1, 7):
                self.assertEqual(pared(n, [], k), ([], [], []))

    def test_ties_from_a_place_to_itself(self):
        for k in range(1, 7):
            self.assertEqual(pared(1, [(0, 0, 0), (MOST, 0, 0)], k), ([], [[[]] * k, [[]] * k], []))

    def test_ways_by_what_is_kept_at_the_end(self):
        # When 1 goes, it hangs by 2 and 3 as well, which go behind it.
        record = [(moment, 0, 1) for moment in range(1, 6)]
        self.assertEqual(pared(2, record, 2)[1], [[[4], [5]]] * 3)

    def test_by_the_words(self):
        for n, record in some_records():
            for k in (1, 2, 3, 6):
                if n <= 5 or len(record) <= 12 or k == 2:
                    self.look_at(n, record, k)

    def test_thick_records(self):
        for seed, n in enumerate((2, 3, 4, 6)):
            for k in range(1, 7):
                self.look_at(n, some_record(1400 + seed, n, 60), k)

    def test_at_least_k_or_all_on_every_side_and_none_too_many(self):
        for seed, (n, count) in enumerate([(2, 9), (3, 14), (4, 25), (5, 20), (6, 40)]):
            record = some_record(1500 + seed, n, count)
            for k in (1, 2, 4):
                moments = pared(n, record, k)[0]
                kept = [tie for tie in record if tie[0] in moments]
                self.assertTrue(self.enough(n, record, k, kept))
                for tie in kept:
                    self.assertFalse(self.enough(n, record, k, [other for other in kept if other != tie]))

    def enough(self, n, record, k, kept):
        for side in all_sides(n):
            over = rim_by_the_words(kept, side)
            if len(over) < k and over != rim_by_the_words(record, side):
                return False
        return True

    def test_no_layers(self):
        for k in no_number_within(1, 6):
            for record in ([], RECORD):
                with self.assertRaises(NoLayers):
                    pared(4, record, k)

    def test_what_is_told_is_the_askers_own(self):
        for n, record in some_records():
            own = copy.deepcopy(record)
            told = pared(n, own, 3)
            before = copy.deepcopy(told)
            self.assertTrue(all_lists_unlike(told))
            cleared(told)
            self.assertEqual(own, record)
            self.assertEqual(pared(n, own, 3), before)


class TestParedRight(unittest.TestCase):
    def says(self, wanted, told, record=RECORD, k=2, n=4):
        handed = copy.deepcopy(told)
        self.assertIs(right_by_the_words(n, record, k, told), wanted, told)
        for time in range(2):
            self.assertIs(pared_right(n, record, k, handed), wanted, told)
        self.assertEqual(handed, told)

    def test_right_ones(self):
        kept, ways, sides = RIGHT
        self.says(True, RIGHT)
        self.says(True, (kept, [[[4, 3], [5]], [[], []]], sides))
        self.says(True, (kept, ways, [(2, 3), (1, 2, 3), (0, 2, 3), (0, 1, 2)]))
        self.says(True, (kept, ways, [(1,), (0,), (0,), (3,)]))
        self.says(True, ([], [], []), record=[])
        self.says(True, ([], [[[], []]], []), record=[(0, 3, 3)])

    def test_whichever_ties_are_kept(self):
        self.says(True, ([1, 3, 4, 6], [[[], []], [[1], [4, 3]]], [(0,), (1,), (0,), (3,)]))
        self.says(True, ([1, 2], [[[1, 2]]], [(0,), (2,)]), record=TRIANGLE, k=1)
        self.says(True, ([1, 3], [[[1, 3]]], [(1,), (2,)]), record=TRIANGLE, k=1)
        self.says(True, ([2, 3], [[[3, 2]]], [(1,), (0,)]), record=TRIANGLE, k=1)

    def test_records_pared_in_another_order(self):
        for seed, (n, count, k) in enumerate([(2, 8, 3), (3, 12, 2), (4, 20, 2), (5, 25, 3), (5, 30, 1), (6, 40, 4)]):
            record = some_record(1600 + seed, n, count)
            for turn in range(4):
                row = list(record)
                random.Random(turn).shuffle(row)
                kept = sorted(kept_by_the_words(n, row, k))
                self.says(True, triple_of(n, record, k, kept), record, k, n)

    def test_kept_that_are_not_rising(self):
        kept, ways, sides = RIGHT
        self.says(False, ([4, 3, 5, 6], ways, [sides[1], sides[0]] + sides[2:]))
        self.says(False, ([4, 3, 5, 6], ways, sides))
        self.says(False, (kept[::-1], ways, sides[::-1]))

    def test_a_moment_twice(self):
        kept, ways, sides = RIGHT
        self.says(False, ([3, 3, 4, 5, 6], ways, sides[:1] + sides))
        self.says(False, ([3, 4, 5, 6, 6], ways, sides + sides[-1:]))
        self.says(False, ([3, 4, 5, 6, 6], ways, sides))

    def test_a_moment_of_no_tie(self):
        kept, ways, sides = RIGHT
        for moment in (7, MOST, 10 ** 50):
            self.says(False, (kept + [moment], ways, sides + [(3,)]))
            self.says(False, (kept + [moment], ways, sides))
        for moment in (0, -1):
            self.says(False, ([moment] + kept, ways, [(3,)] + sides))
        self.says(False, ([7], [], [(0,)]), record=[])
        self.says(False, ([7], [[[5], [4, 3]], [[], []]], [(3,)]))

    def test_a_tie_from_a_place_to_itself_that_is_kept(self):
        kept, ways, sides = RIGHT
        for side in ((1,), (), (0, 1)):
            self.says(False, ([2] + kept, ways[:1], [side] + sides))

    def test_too_many_kept(self):
        for side in all_sides(4):
            self.says(False, ([1, 3, 4, 5, 6], [[[], []]], [side] + [(0, 1), (0,), (1,), (3,)]))

    def test_too_few_kept(self):
        self.says(False, ([3, 4, 5], [[[5], [4, 3]], [[], []], [[], []]], [(0, 1), (0,), (1,)]))
        self.says(False, ([3, 4, 6], [[[4, 3], [4, 3]], [[], []], [[4, 3], [4, 3]]], [(0, 1), (0,), (3,)]))

    def test_wrong_ways(self):
        kept, ways, sides = RIGHT
        for some in (
            [], [[5]], [[4, 3]], [[5], [4, 3], []], [[5], [4, 3], [4, 3]], [[5], [5]], [[4, 3], [4, 3]], [[5], [4]],
            [[5], [3]], [[5], [3, 4]], [[5], [1]], [[5], [2, 4, 3]], [[5], []], [[], []], [[5], [7]], [[5], [4, 3, 5]],
            [[5], [4, 6]], [[5], [4, 6, 6, 3]], [[1], [4, 3]], [[5], [-4, 3]],
        ):
            self.says(False, (kept, [some, [[], []]], sides))

    def test_wrong_ways_of_a_tie_from_a_place_to_itself(self):
        kept, ways, sides = RIGHT
        for some in ([], [[]], [[], [], []], [[], [5, 4, 3]], [[3, 4, 5], []], [[2], []], [[5], []]):
            self.says(False, (kept, [ways[0], some], sides))

    def test_wrong_sides(self):
        kept, ways, sides = RIGHT
        wrong = [(), (0, 1, 2, 3), (1, 0), (0, 0), (0, 4), (-1, 0), (0, 10 ** 30), (4,), (0, 1, 1), (3, 0)]
        for at in range(4):
            for side in wrong + list(all_sides(4)):
                rim = rim_by_the_words([tie for tie in RECORD if tie[0] in kept], side)
                good = side not in wrong and kept[at] in rim and len(rim) <= 2
                self.says(good, (kept, ways, sides[:at] + [side] + sides[at + 1:]))

    def test_just_k_and_one_more_over_a_rim(self):
        record = [(1, 0, 1), (2, 0, 2), (3, 0, 3)]
        self.says(True, ([1, 2, 3], [], [(1,), (2,), (3,)]), record=record, k=1)
        self.says(False, ([1, 2, 3], [], [(1,), (1, 2), (3,)]), record=record, k=1)
        self.says(True, ([1, 2, 3], [], [(1,), (1, 2), (3,)]), record=record, k=2)
        self.says(False, ([1, 2, 3], [], [(0,), (2,), (3,)]), record=record, k=2)
        self.says(True, ([1, 2, 3], [], [(0,), (2,), (3,)]), record=record, k=3)

    def test_lists_of_other_lengths(self):
        kept, ways, sides = RIGHT
        for told in (
            (kept, ways[:1], sides), (kept, ways[1:], sides), (kept, [], sides), (kept, ways + ways[1:], sides),
            (kept, ways + [[]], sides), (kept, ways, sides[:3]), (kept, ways, []), (kept, ways, sides + [(3,)]),
            (kept[:3], ways, sides), (kept[1:], ways, sides), ([], ways, []), ([], [], []), (kept, ways[::-1], sides),
        ):
            self.says(False, told)

    def test_another_k(self):
        for k in (1, 3, 4, 5, 6):
            self.says(False, RIGHT, k=k)

    def test_all_sets_of_kept_ties(self):
        for record, k in ((TRIANGLE, 1), (TRIANGLE, 2), (RECORD, 1), (RECORD, 2), (RECORD, 3)):
            for number in range(2 ** len(record)):
                kept = [tie for at, tie in enumerate(record) if number >> at & 1 and tie[1] != tie[2]]
                told = triple_of(4, record, k, kept)
                if None not in told[2]:
                    self.says(right_by_the_words(4, record, k, told), told, record, k)

    def test_no_layers(self):
        for k in no_number_within(1, 6):
            for record, told in (([], ([], [], [])), (RECORD, RIGHT), (RECORD, ([], [], []))):
                with self.assertRaises(NoLayers):
                    pared_right(4, record, k, told)
