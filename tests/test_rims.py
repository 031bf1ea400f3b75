import unittest

from sinceply.rims import parts, rim, way_right
from tests.helpers import MOST, all_sides, joined, some_records

RECORD = [(0, 0, 1), (2, 1, 1), (3, 1, 2), (5, 0, 2), (6, 2, 3), (8, 0, 1), (9, 0, 0), (MOST, 0, 3)]


class TestRim(unittest.TestCase):
    def test_sides_of_none_and_all(self):
        self.assertEqual(rim(RECORD, ()), [])
        self.assertEqual(rim(RECORD, (0, 1, 2, 3)), [])

    def test_sides_of_one_place(self):
        self.assertEqual(rim(RECORD, (0,)), [0, 5, 8, MOST])
        self.assertEqual(rim(RECORD, (1,)), [0, 3, 8])
        self.assertEqual(rim(RECORD, (3,)), [6, MOST])

    def test_sides_of_several_places(self):
        self.assertEqual(rim(RECORD, (0, 1)), [3, 5, MOST])
        self.assertEqual(rim(RECORD, (0, 2, 3)), [0, 3, 8])

    def test_a_tie_from_a_place_to_itself_is_in_none(self):
        for side in all_sides(2):
            self.assertEqual(rim([(1, 0, 0), (2, 1, 1)], side), [])

    def test_just_one_end(self):
        for n, record in some_records():
            if n <= 5:
                for side in all_sides(n):
                    wanted = [m for m, a, b in record if [a in side, b in side].count(True) == 1]
                    self.assertEqual(rim(record, side), wanted)

    def test_what_is_told_is_the_askers_own(self):
        record = list(RECORD)
        rim(record, (0,)).clear()
        self.assertEqual(record, RECORD)
        self.assertEqual(rim(record, (0,)), [0, 5, 8, MOST])


class TestParts(unittest.TestCase):
    def test_no_ties(self):
        self.assertEqual(parts(1, []), [(0,)])
        self.assertEqual(parts(10, []), [(place,) for place in range(10)])

    def test_all_joined(self):
        self.assertEqual(parts(4, RECORD), [(0, 1, 2, 3)])
        self.assertEqual(parts(3, [(1, 1, 2), (2, 0, 2)]), [(0, 1, 2)])

    def test_several_parts(self):
        self.assertEqual(parts(7, [(1, 3, 5), (2, 1, 6), (4, 5, 5), (7, 0, 5)]), [(0, 3, 5), (1, 6), (2,), (4,)])

    def test_joined_with_one_another(self):
        for n, record in some_records():
            told = parts(n, record)
            self.assertEqual(told, sorted(told))
            self.assertEqual(sorted(place for part in told for place in part), list(range(n)))
            for part in told:
                self.assertIs(type(part), tuple)
                self.assertEqual(part, tuple(b for b in range(n) if joined(record, part[0], b)))

    def test_what_is_told_is_the_askers_own(self):
        record = list(RECORD)
        parts(4, record).clear()
        self.assertEqual(record, RECORD)
        self.assertEqual(parts(4, record), [(0, 1, 2, 3)])


class TestWayRight(unittest.TestCase):
    def says(self, a, b, way, wanted):
        handed = list(way)
        self.assertIs(way_right(RECORD, a, b, handed), wanted, (a, b, way))
        self.assertEqual(handed, way)

    def test_right_ways(self):
        self.says(0, 1, [0], True)
        self.says(1, 0, [0], True)
        self.says(0, 3, [0, 3, 6], True)
        self.says(3, 0, [6, 3, 0], True)
        self.says(3, 0, [MOST], True)

    def test_places_may_come_twice_but_ties_may_not(self):
        self.says(0, 3, [0, 3, 5, MOST], True)
        self.says(0, 0, [0, 3, 5], True)

    def test_parallel_ties(self):
        self.says(0, 1, [8], True)
        self.says(0, 0, [0, 8], True)
        self.says(0, 1, [0, 8], False)

    def test_no_moments(self):
        for a in range(4):
            for b in range(4):
                self.says(a, b, [], a == b)

    def test_a_moment_twice(self):
        self.says(0, 0, [0, 0], False)
        self.says(0, 1, [0, 8, 0], False)

    def test_a_moment_of_no_tie(self):
        for moment in (1, -1, 7, MOST + 1, -MOST):
            self.says(0, 1, [moment], False)
            self.says(0, 1, [0, moment], False)
            self.says(0, 0, [moment], False)

    def test_a_tie_from_a_place_to_itself(self):
        self.says(1, 1, [2], False)
        self.says(0, 1, [0, 2], False)
        self.says(0, 1, [9, 0], False)

    def test_an_order_by_which_one_cannot_go(self):
        self.says(0, 3, [3, 0, 6], False)
        self.says(0, 3, [6, 3, 0], False)
        self.says(0, 3, [0, 6], False)

    def test_a_way_that_ends_elsewhere(self):
        self.says(0, 2, [0], False)
        self.says(0, 0, [0], False)
        self.says(0, 2, [0, 3, 6], False)

    def test_a_record_without_ties(self):
        self.assertIs(way_right([], 0, 0, []), True)
        self.assertIs(way_right([], 0, 1, []), False)
        self.assertIs(way_right([], 0, 0, [0]), False)

    def test_the_same_answer_again(self):
        way = [0, 3, 6]
        self.assertEqual([way_right(RECORD, 0, 3, way) for time in range(3)], [True] * 3)
