import itertools
import unittest

from sinceply.flows import hang_often, parted, shortest_ways, steps_of, ways_apart
from tests.helpers import lead_apart, least_rim, rim_by_the_words, some_records


class TestWaysApart(unittest.TestCase):
    def test_none_asked_for(self):
        self.assertEqual(ways_apart(2, [(1, 0, 1)], 0, 1, 0), ([], None))
        self.assertEqual(ways_apart(2, [], 0, 1, 0), ([], None))

    def test_the_first_way_is_a_shortest_one(self):
        ties = [(1, 0, 1), (2, 1, 2), (3, 2, 3), (4, 0, 3)]
        self.assertEqual(ways_apart(4, ties, 0, 3, 1), ([[4]], None))

    def test_as_many_as_a_least_rim_has(self):
        for n, record in some_records():
            for a, b in list(itertools.combinations(range(n), 2))[:12]:
                ways, side = ways_apart(n, record, a, b, 60)
                self.assertTrue(lead_apart(record, a, b, ways))
                self.assertEqual(len(ways), least_rim(n, record, a, b))
                if side is not None:
                    self.assertEqual(len(rim_by_the_words(record, side)), len(ways))

    def test_hang_often(self):
        for n, record in some_records():
            for a, b in list(itertools.combinations(range(n), 2))[:12]:
                often = least_rim(n, record, a, b)
                for times in range(1, 8):
                    self.assertIs(hang_often(n, record, a, b, times), often >= times)


class TestSteps(unittest.TestCase):
    def test_steps_go_both_ways_and_never_stay(self):
        steps = steps_of(3, [(1, 0, 1), (2, 1, 1), (3, 1, 2)])
        self.assertEqual(steps, [[(1, 1)], [(1, 0), (3, 2)], [(3, 1)]])

    def test_shortest_ways(self):
        steps = steps_of(5, [(1, 0, 1), (2, 1, 2), (3, 2, 3), (4, 0, 3)])
        ways = {0: [], 1: [(1, 1)], 3: [(4, 3)], 2: [(1, 1), (2, 2)]}
        self.assertEqual(shortest_ways(steps, 0), ways)

    def test_a_ring_that_is_left_over_is_no_way(self):
        steps = steps_of(3, [(1, 0, 2), (2, 0, 1), (3, 1, 2), (4, 0, 2)])
        heads = {1: 2, 2: 1, 3: 2, 4: 0}
        self.assertEqual(parted(steps, heads, 0, 2, 1), [[1]])
        self.assertEqual(heads, {1: 2, 2: 1, 3: 2, 4: 0})
