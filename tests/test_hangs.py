import copy
import itertools
import unittest

from sinceply.errors import NoNet, NoPair
from sinceply.hangs import hang, hang_of, hang_right
from sinceply.nets import net_of
from tests.helpers import (
    MOST, NET, all_lists_unlike, cleared, lead_apart, least_rim, no_nets, no_pairs, rim_by_the_words,
    since_by_the_words, some_record, some_records,
)

# The shortest way from 0 to 5 is by 1 and 2; with it led so, no second one is free: it must be led otherwise.
LED_OTHERWISE = [
    (1, 0, 1), (2, 1, 2), (3, 2, 5), (4, 0, 3), (5, 3, 4), (6, 2, 4), (7, 1, 6), (8, 6, 7), (9, 5, 7),
]
PARALLEL = [(moment, 0, 1) for moment in range(60)]
RING = [(1, 0, 1), (2, 1, 2), (3, 2, 3), (4, 0, 3)]


class Asked(unittest.TestCase):
    def look_at(self, n, record, a, b, most, t, told):
        ties = since_by_the_words(record, t)
        count, ways, side = told
        self.assertIs(type(told), tuple)
        self.assertEqual(count, min(most, least_rim(n, ties, a, b)), (n, record, a, b, most, t))
        self.assertEqual(len(ways), count)
        self.assertTrue(lead_apart(ties, a, b, ways), (ties, a, b, ways))
        if count == most:
            self.assertIsNone(side)
        else:
            self.assertIs(type(side), tuple)
            self.assertEqual(side, tuple(sorted(set(side) & set(range(n)))))
            self.assertTrue(a in side and b not in side)
            self.assertEqual(len(rim_by_the_words(ties, side)), count)

    def ask(self, n, record, a, b, most, t):
        told = hang_of(n, record, a, b, most, t)
        self.look_at(n, record, a, b, most, t, told)
        self.assertIs(hang_right(n, record, a, b, most, t, told), True)
        return told[0]


class TestHangOf(Asked):
    def test_no_ties(self):
        self.assertEqual(hang_of(2, [], 0, 1, 1), (0, [], (0,)))
        self.assertEqual(hang_of(10, [], 7, 3, 60), (0, [], (7,)))

    def test_parallel_ties(self):
        for most in (1, 2, 30, 59, 60):
            for a, b in ((0, 1), (1, 0)):
                told = hang_of(2, PARALLEL, a, b, most)
                self.assertEqual(told[0], most)
                self.assertEqual(len({way[0] for way in told[1]}), most)
                self.assertIsNone(told[2])
        self.assertEqual(self.ask(2, PARALLEL[:59], 0, 1, 60, 0), 59)
        self.assertEqual(hang_of(2, PARALLEL[:59], 1, 0, 60)[2], (1,))

    def test_ties_from_a_place_to_itself(self):
        record = [(0, 0, 0), (1, 0, 1), (2, 1, 1), (3, 2, 2)]
        self.assertEqual(hang_of(3, record, 0, 1, 5), (1, [[1]], (0,)))
        self.assertEqual(self.ask(3, record, 0, 2, 5, 0), 0)

    def test_rings(self):
        for a, b in itertools.permutations(range(4), 2):
            self.assertEqual(self.ask(4, RING, a, b, 60, 0), 2)
            self.assertEqual(self.ask(4, RING, a, b, 2, 0), 2)
            self.assertEqual(self.ask(4, RING, a, b, 1, 0), 1)
            self.assertEqual(self.ask(4, RING, a, b, 60, 2), 1)

    def test_ties_that_must_be_led_otherwise(self):
        for most in (1, 2, 3, 60):
            self.assertEqual(self.ask(8, LED_OTHERWISE, 0, 5, most, 0), min(most, 2))
            self.assertEqual(self.ask(8, LED_OTHERWISE, 5, 0, most, 0), min(most, 2))

    def test_all_t(self):
        for t, count in ((0, 60), (1, 59), (20, 40), (59, 1), (60, 0), (MOST, 0), (MOST * MOST, 0)):
            self.assertEqual(self.ask(2, PARALLEL, 0, 1, 60, t), count)

    def test_t_by_its_name_and_by_none(self):
        self.assertEqual(self.ask(2, PARALLEL, 0, 1, 60, 58), 2)
        self.assertEqual(hang_of(2, PARALLEL, 0, 1, 60, t=58), hang_of(2, PARALLEL, 0, 1, 60, 58))
        self.assertEqual(hang_of(2, PARALLEL[:1], 0, 1, 2), hang_of(2, PARALLEL[:1], 0, 1, 2, 0))

    def test_records(self):
        for n, record in some_records():
            pairs = list(itertools.permutations(range(n), 2)) if n <= 5 else [(0, 9), (9, 0), (3, 4), (8, 2), (5, 1)]
            for a, b in pairs:
                for most, t in ((1, 0), (2, 9), (4, 0), (60, 0), (60, 20), (7, 3 * len(record) + 9)):
                    self.ask(n, record, a, b, most, t)

    def test_most_is_just_as_often_as_they_hang_together(self):
        for seed in range(20):
            record = some_record(400 + seed, 4, 25)
            often = hang_of(4, record, 0, 3, 60)[0]
            for most in range(max(1, often - 1), often + 2):
                self.assertEqual(self.ask(4, record, 0, 3, most, 0), min(most, often))

    def test_thick_webs_of_many_places(self):
        for seed in range(6):
            record = some_record(500 + seed, 7, 60)
            for a, b in itertools.combinations(range(7), 2):
                self.ask(7, record, a, b, 60, 0)

    def test_no_pair(self):
        for n in (1, 2, 10):
            for record in ([], [(3, 0, n - 1)]):
                for a, b in no_pairs(n):
                    with self.assertRaises(NoPair):
                        hang_of(n, record, a, b, 3)
                    with self.assertRaises(NoPair):
                        hang_of(n, record, a, b, 60, t=4)


class TestHang(Asked):
    def test_up_to_k(self):
        for k in range(1, 7):
            net = net_of(2, PARALLEL, k)
            told = hang(net, 0, 1)
            self.look_at(2, net[2], 0, 1, k, 0, told)
            self.assertEqual((told[0], told[2]), (k, None))
            self.assertEqual(hang(net, 0, 1, t=60), (0, [], (0,)))
            self.assertEqual(hang(net, 1, 0, 59), (1, [[59]], None if k == 1 else (1,)))

    def test_the_same_as_the_records(self):
        for n, record in some_records():
            for k in (1, 2, 3, 6):
                net = net_of(n, record, k)
                for a, b in list(itertools.permutations(range(n), 2))[::1 if n <= 5 else 17]:
                    for t in (0, 8, 40):
                        told = hang(net, a, b, t)
                        self.look_at(n, net[2], a, b, k, t, told)
                        self.assertEqual(told[0], min(k, hang_of(n, record, a, b, 60, t)[0]))

    def test_t_is_0_where_none_is_told(self):
        self.assertEqual(hang((2, 1, [(0, 0, 1)]), 0, 1), (1, [[0]], None))
        self.assertEqual(hang_of(2, [(0, 0, 1)], 0, 1, 1), (1, [[0]], None))

    def test_no_net_ahead_of_no_pair(self):
        for thing in no_nets():
            for a, b in ((0, 1), (0, 0), (None, None)):
                with self.assertRaises(NoNet):
                    hang(thing, a, b)
                with self.assertRaises(NoNet):
                    hang(thing, a, b, t=1)

    def test_no_pair(self):
        for net in (NET, (3, 1, [])):
            for a, b in no_pairs(3):
                with self.assertRaises(NoPair):
                    hang(net, a, b)


class TestHangRight(unittest.TestCase):
    RECORD = [(1, 0, 1), (2, 0, 1), (3, 1, 2), (4, 1, 2), (5, 0, 0), (6, 2, 3)]

    def says(self, wanted, told, a=0, b=2, most=5, t=0, record=None):
        handed = copy.deepcopy(told)
        for time in range(2):
            self.assertIs(hang_right(4, record or self.RECORD, a, b, most, t, handed), wanted, told)
        self.assertEqual(handed, told)

    def test_right_ones(self):
        for ways in ([[1, 3], [2, 4]], [[1, 4], [2, 3]], [[2, 3], [1, 4]]):
            for side in ((0,), (0, 1)):
                self.says(True, (2, ways, side))
                self.says(True, (2, ways, None), most=2)
        self.says(True, (1, [[2, 4]], None), most=1)
        self.says(True, (1, [[2, 4]], (0,)), t=2)
        self.says(True, (2, [[3, 1], [4, 2]], (2, 3)), a=2, b=0)
        self.says(True, (2, [[3, 1], [4, 2]], (1, 2, 3)), a=2, b=0)
        self.says(True, (1, [[1, 3, 6]], (0, 1, 2)), b=3)
        self.says(True, (0, [], (0,)), t=7)
        self.says(True, (0, [], (0, 1, 3)), t=7)

    def test_a_way_that_goes_round_is_right(self):
        ring = RING + [(5, 1, 3)]
        self.says(True, (1, [[1, 2, 3, 5]], None), 0, 1, 1, record=ring)

    def test_another_count(self):
        for count in (-1, 0, 1, 3, 5, 10 ** 59):
            self.says(False, (count, [[1, 3], [2, 4]], (0,)))
            self.says(False, (count, [[1, 3], [2, 4]], None))
        self.says(False, (1, [[1, 3]], (0,)))
        self.says(False, (0, [], (0,)))

    def test_more_than_most(self):
        for side in (None, (0,)):
            self.says(False, (2, [[1, 3], [2, 4]], side), most=1)

    def test_a_way_too_few_or_too_many(self):
        self.says(False, (2, [[1, 3]], (0,)))
        self.says(False, (2, [], (0,)))
        self.says(False, (2, [[1, 3], [2, 4], [2, 4]], (0,)))
        self.says(False, (2, [[1, 3], [2, 4], []], (0,)))
        self.says(False, (2, [[1, 3]], None), most=2)
        self.says(False, (1, [[1, 3], [2, 4]], None), most=1)

    def test_a_tie_in_two_ways(self):
        self.says(False, (2, [[1, 3], [1, 4]], (0,)))
        self.says(False, (2, [[1, 3], [2, 3]], (0,)))
        self.says(False, (2, [[1, 3], [1, 3]], None), most=2)
        self.says(False, (3, [[1, 3], [2, 4], [2, 4]], None), most=3)

    def test_a_tie_before_t(self):
        self.says(False, (2, [[1, 3], [2, 4]], (0, 1)), t=2)
        self.says(False, (1, [[1, 4]], (0,)), t=2)
        self.says(False, (1, [[1, 3]], None), most=1, t=2)

    def test_a_way_that_is_none(self):
        self.says(False, (2, [[1, 3], [2]], (0,)))
        self.says(False, (2, [[1, 3], [2, 4, 6]], (0,)))
        self.says(False, (2, [[3, 1], [4, 2]], (0,)))
        self.says(False, (2, [[1, 3], [4, 2]], (0,)))
        self.says(False, (2, [[1, 3], []], (0,)))
        self.says(False, (2, [[1, 3], [5, 2, 4]], (0,)))
        self.says(False, (2, [[1, 3], [7]], (0,)))
        self.says(False, (2, [[1, 3], [-2, 4]], (0,)))
        self.says(False, (2, [[1, 3], [2, 4]], (2,)), a=2, b=0)

    def test_a_side_that_is_none_or_is_not_where_it_should_be(self):
        self.says(False, (2, [[1, 3], [2, 4]], None))
        self.says(False, (2, [[1, 3], [2, 4]], (0,)), most=2)
        self.says(False, (0, [], None), t=7)

    def test_a_wrong_side(self):
        for side in ((), (1,), (2,), (0, 2), (0, 1, 2), (0, 1, 2, 3), (1, 0), (0, 0), (0, 1, 1), (0, 1, 4), (-1, 0),
                     (0, 10 ** 30), (0, 3), (0, 1, 3), (3,), (2, 3)):
            self.says(False, (2, [[1, 3], [2, 4]], side))

    def test_other_than_count_ties_over_the_rim(self):
        record = RING + [(5, 0, 1)]
        self.says(True, (2, [[1, 2], [4, 3]], (0, 1)), record=record)
        self.says(True, (2, [[1, 2], [4, 3]], (0, 1, 3)), record=record)
        for side in ((0,), (0, 3)):
            self.says(False, (2, [[1, 2], [4, 3]], side), record=record)
        self.says(False, (1, [[4, 3]], (0, 3)), record=record)

    def test_each_other_side_and_count_of_records(self):
        for seed in range(8):
            record = some_record(600 + seed, 4, 12)
            count, ways, side = hang_of(4, record, 0, 2, 60)
            for other in itertools.product((False, True), repeat=4):
                some = tuple(place for place in range(4) if other[place])
                good = 0 in some and 2 not in some and len(rim_by_the_words(record, some)) == count
                self.says(good, (count, ways, some), most=60, record=record)
            if count:
                self.says(False, (count - 1, ways[1:], side), most=60, record=record)

    def test_no_two_unlike_places(self):
        for a, b in ((0, 0), (0, 4), (-1, 2), (4, 0)):
            self.says(False, (1, [[]], None), a=a, b=b, most=1)
            self.says(False, (0, [], (0,)), a=a, b=b, most=1)


class TestOwn(unittest.TestCase):
    def test_what_is_told_is_the_askers_own(self):
        record = some_record(700, 5, 40)
        net = net_of(5, record, 4)
        for ask, handed in ((hang_of, (5, record, 0, 1, 60)), (hang_of, (5, record, 3, 2, 2, 9)), (hang, (net, 0, 4))):
            own = copy.deepcopy(handed)
            told = ask(*own)
            before = copy.deepcopy(told)
            self.assertTrue(told[1])
            self.assertTrue(all_lists_unlike(told))
            cleared(told)
            self.assertEqual(own, handed)
            self.assertEqual(ask(*own), before)
