import copy
import itertools
import unittest

from sinceply.byplaces import hang_often_by_places, place_hang
from sinceply.errors import NoPair
from tests.helpers import (
    MOST, all_lists_unlike, cleared, joined, lead_apart_by_places, least_parting, no_pairs, places_along, some_record,
    some_records, without_places,
)

# Both 0 and 3 have many ties, but whoever goes from the one to the other goes through 2.
WAIST = [
    (1, 0, 1), (2, 1, 2), (3, 0, 2), (4, 0, 2), (5, 2, 3), (6, 2, 4), (7, 3, 4), (8, 2, 3), (9, 2, 2),
]


def all_ways(ties, a, b, been):
    if a == b:
        return [[]]
    found = []
    for moment, first, second in ties:
        if first != second and a in (first, second):
            other = second if a == first else first
            if other not in been:
                found += [[moment] + way for way in all_ways(ties, other, b, been + [other])]
    return found


def most_ways_by_the_words(ties, a, b):
    # Each way by its ties and the places between both ends; as many as can be picked apart from one another.
    ways = all_ways(ties, a, b, [a])
    things = [set(way) | {-1 - place for place in places_along(ties, a, way)[1:-1]} for way in ways]

    def most(at, taken):
        if at == len(things):
            return 0
        best = most(at + 1, taken)
        if not things[at] & taken:
            best = max(best, 1 + most(at + 1, taken | things[at]))
        return best

    return most(0, set())


class TestPlaceHang(unittest.TestCase):
    def look_at(self, n, record, a, b, most):
        told = place_hang(n, record, a, b, most)
        count, ways, places = told
        self.assertIs(type(told), tuple)
        self.assertIs(type(count), int)
        self.assertIs(type(ways), list)
        self.assertEqual(len(ways), count)
        self.assertTrue(all(type(way) is list for way in ways))
        self.assertTrue(lead_apart_by_places(record, a, b, ways), (n, record, a, b, most, told))
        if count == most:
            self.assertIsNone(places)
            return count
        self.assertLess(count, most)
        straight = [tie for tie in record if set(tie[1:]) == {a, b}]
        self.assertIs(type(places), tuple)
        self.assertEqual(list(places), sorted(set(places) & set(range(n)) - {a, b}))
        self.assertEqual(count, len(straight) + len(places))
        others = [tie for tie in without_places(record, places) if tie not in straight]
        self.assertFalse(joined(others, a, b))
        return count

    def test_examples(self):
        square = [(1, 0, 1), (2, 1, 2), (3, 2, 3), (4, 0, 3)]
        self.assertEqual(place_hang(4, square, 0, 1, 60), (2, [[1], [4, 3, 2]], (3,)))
        self.assertEqual(place_hang(4, square, 0, 1, 1), (1, [[1]], None))
        self.assertEqual(place_hang(4, square, 0, 2, 2)[::2], (2, None))
        self.assertEqual(place_hang(4, square, 0, 2, 3)[::2], (2, (1, 3)))

    def test_no_ties(self):
        for n in (2, 3, 10):
            for most in (1, 2, 60):
                for a, b in itertools.permutations(range(n), 2):
                    self.assertEqual(place_hang(n, [], a, b, most), (0, [], ()))

    def test_just_ties_from_a_place_to_itself(self):
        record = [(1, 0, 0), (2, 1, 1), (3, 2, 2)]
        for most in (1, 60):
            self.assertEqual(place_hang(3, record, 0, 1, most), (0, [], ()))
        self.assertEqual(place_hang(3, record + [(4, 0, 2), (5, 1, 2)], 0, 1, 60), (1, [[4, 5]], (2,)))

    def test_each_tie_between_just_both_is_a_way(self):
        record = [(moment, 0, 1) for moment in range(59)] + [(MOST, 0, 1)]
        for a, b in ((0, 1), (1, 0)):
            self.assertEqual(place_hang(2, record, a, b, 60), (60, [[tie[0]] for tie in record], None))
            for most in (1, 2, 59):
                self.look_at(3, record, a, b, most)
            count, ways, places = place_hang(3, record[1:], a, b, 60)
            self.assertEqual((count, places), (59, ()))
            self.assertEqual(sorted(ways), [[tie[0]] for tie in record[1:]])

    def test_several_ties_to_a_place_between_count_once(self):
        record = [(1, 0, 2), (2, 0, 2), (3, 1, 2), (4, 1, 2), (5, 0, 1)]
        self.assertEqual(place_hang(3, record, 0, 1, 60)[::2], (2, (2,)))
        self.assertEqual(place_hang(3, record[:4], 0, 1, 60)[::2], (1, (2,)))
        self.look_at(3, record, 0, 1, 60)

    def test_one_place_that_all_ways_go_through(self):
        for a, b in itertools.product((0, 1), (3, 4)):
            for most in (2, 3, 60):
                self.assertEqual(place_hang(5, WAIST, a, b, most)[::2], (1, (2,)))
                self.look_at(5, WAIST, a, b, most)
            self.assertEqual(place_hang(5, WAIST, a, b, 1)[::2], (1, None))
        self.assertEqual(place_hang(5, WAIST, 0, 2, 60)[::2], (3, (1,)))

    def test_rings(self):
        for n in range(3, 11):
            ring = sorted((10 * place, min(place, (place + 1) % n), max(place, (place + 1) % n)) for place in range(n))
            for a, b in itertools.permutations(range(n), 2):
                self.assertEqual(self.look_at(n, ring, a, b, 60), 2)
                self.assertEqual(self.look_at(n, ring, a, b, 2), 2)

    def test_ways_that_must_be_led_otherwise(self):
        # The shortest way from 0 to 5 goes by 1 and 4, across both long ones.
        record = [(1, 0, 1), (2, 1, 4), (3, 4, 5), (4, 0, 2), (5, 2, 3), (6, 3, 4), (7, 1, 6), (8, 6, 7), (9, 5, 7)]
        count, ways, places = place_hang(8, record, 0, 5, 60)
        self.assertEqual(count, 2)
        self.assertEqual(sorted(ways), [[1, 7, 8, 9], [4, 5, 6, 3]])
        self.look_at(8, record, 0, 5, 60)
        self.look_at(8, record, 5, 0, 60)
        self.look_at(8, record, 0, 5, 2)

    def test_a_place_is_no_way_out_though_ties_would_be(self):
        # By ties 0 and 4 hang together twice, yet both ways go through 2.
        record = [(1, 0, 1), (2, 0, 3), (3, 1, 2), (4, 2, 3), (5, 2, 5), (6, 2, 6), (7, 4, 5), (8, 4, 6)]
        self.assertEqual(place_hang(7, record, 0, 4, 60)[::2], (1, (2,)))
        self.look_at(7, record, 0, 4, 60)

    def test_from_the_first_to_the_second(self):
        record = [(3, 0, 1), (5, 1, 2), (9, 2, 3)]
        self.assertEqual(place_hang(4, record, 0, 3, 1), (1, [[3, 5, 9]], None))
        self.assertEqual(place_hang(4, record, 3, 0, 1), (1, [[9, 5, 3]], None))

    def test_by_the_words(self):
        for seed in range(60):
            n, count = 2 + seed % 4, seed % 11
            record = some_record(2000 + seed, n, count)
            for a, b in itertools.permutations(range(n), 2):
                often = most_ways_by_the_words(record, a, b)
                for most in (1, 2, 3, 60):
                    self.assertEqual(self.look_at(n, record, a, b, most), min(most, often))

    def test_many_places_and_ties(self):
        for n, record in some_records():
            for a, b in list(itertools.permutations(range(n), 2))[:30]:
                often = least_parting(n, record, a, b)
                for most in {1, 2, 5, 59, 60, often or 1, often + 1}:
                    self.assertEqual(self.look_at(n, record, a, b, most), min(most, often))

    def test_thin_webs_of_ten_places(self):
        for seed in range(30):
            record = some_record(2100 + seed, 10, 12 + seed)
            for a, b in ((0, 9), (9, 0), (3, 4)):
                self.assertEqual(self.look_at(10, record, a, b, 60), least_parting(10, record, a, b))

    def test_hang_often_by_places(self):
        for n, record in some_records():
            for a, b in list(itertools.combinations(range(n), 2))[:8]:
                often = least_parting(n, record, a, b)
                for times in range(1, 7):
                    self.assertIs(hang_often_by_places(n, record, a, b, times), often >= times)

    def test_no_pair(self):
        for n, record in ((1, []), (3, []), (5, WAIST)):
            for a, b in no_pairs(n):
                with self.assertRaises(NoPair):
                    place_hang(n, record, a, b, 3)

    def test_what_is_told_is_the_askers_own(self):
        for n, record in some_records():
            for a, b in list(itertools.combinations(range(n), 2))[:4]:
                own = copy.deepcopy(record)
                told = place_hang(n, own, a, b, 60)
                before = copy.deepcopy(told)
                self.assertTrue(all_lists_unlike(told))
                cleared(told)
                self.assertEqual(own, record)
                self.assertEqual(place_hang(n, own, a, b, 60), before)
