import copy
import unittest

from sinceply.errors import NoLayers, NoNet
from sinceply.nets import is_net, net_fewer, net_of, net_since
from sinceply.records import since
from sinceply.rims import rim
from tests.helpers import (
    MOST, NET, TIES, all_sides, layers_by_the_words, no_nets, no_number_within, odd_things, some_record, some_records,
)


class TestIsNet(unittest.TestCase):
    def test_nets(self):
        for net in (NET, (3, 3, TIES), (5, 2, TIES), (1, 1, []), (10, 6, []), (2, 1, [(0, 0, 1)])):
            self.assertIs(is_net(net), True)

    def test_what_is_no_net(self):
        for thing in no_nets():
            self.assertIs(is_net(thing), False, thing)

    def test_anything_within(self):
        for thing in odd_things():
            self.assertIs(is_net((thing, 2, [])), False)
            self.assertIs(is_net((3, thing, [])), False)
            self.assertIs(is_net((3, 2, thing)), thing == [])
            self.assertIs(is_net((3, 2, [thing])), False)

    def test_a_tie_that_is_left_out(self):
        for n, record in some_records():
            for k in (1, 3, 6):
                self.assertIs(is_net((n, k, record)), 0 not in layers_by_the_words(record, k))


class TestNetOf(unittest.TestCase):
    def test_an_example(self):
        record = [(1, 0, 1), (2, 0, 1), (3, 2, 2), (4, 1, 2), (6, 0, 2)]
        self.assertEqual(net_of(3, record, 1), (3, 1, [(4, 1, 2), (6, 0, 2)]))
        self.assertEqual(net_of(3, record, 2), (3, 2, [(2, 0, 1), (4, 1, 2), (6, 0, 2)]))
        self.assertEqual(net_of(3, [], 2), (3, 2, []))

    def test_the_ties_that_are_not_left_out(self):
        for n, record in some_records():
            for k in range(1, 7):
                net = net_of(n, record, k)
                numbers = layers_by_the_words(record, k)
                self.assertEqual(net, (n, k, [tie for tie, number in zip(record, numbers) if number]))
                self.assertLessEqual(len(net[2]), k * (n - 1))
                self.assertIs(is_net(net), True)

    def test_the_net_of_a_net_is_itself(self):
        self.assertEqual(net_of(3, TIES, 2), NET)

    def test_no_layers(self):
        for k in no_number_within(1, 6):
            for record in ([], TIES):
                with self.assertRaises(NoLayers):
                    net_of(3, record, k)

    def test_what_is_told_is_the_askers_own(self):
        record = list(TIES)
        told = net_of(3, record, 2)
        self.assertIs(type(told), tuple)
        self.assertIsNot(told[2], record)
        told[2].clear()
        self.assertEqual(record, TIES)
        self.assertEqual(net_of(3, record, 2), NET)


class TestNetSince(unittest.TestCase):
    def test_since(self):
        for t, first in ((0, 0), (2, 0), (3, 1), (5, 1), (6, 2), (7, 2), (8, 3), (MOST, 3), (MOST + 1, 4)):
            self.assertEqual(net_since(NET, t), (3, 2, TIES[first:]))
        self.assertEqual(net_since(NET, t=3), (3, 2, TIES[1:]))
        self.assertEqual(net_since((1, 1, []), 0), (1, 1, []))

    def test_the_net_of_a_record_since(self):
        for n, record in some_records():
            for k in (1, 2, 4, 6):
                net = net_of(n, record, k)
                for t in range(0, 3 * len(record) + 7, 4):
                    self.assertEqual(net_of(n, since(record, t), k), net_since(net, t))

    def test_no_net(self):
        for thing in no_nets():
            for t in (0, 5, None):
                with self.assertRaises(NoNet):
                    net_since(thing, t)

    def test_what_is_told_is_the_askers_own(self):
        net = copy.deepcopy(NET)
        told = net_since(net, 0)
        told[2].clear()
        self.assertEqual(net, NET)
        self.assertEqual(net_since(net, 0), NET)


class TestNetFewer(unittest.TestCase):
    def test_each_number_of_layers(self):
        net = (2, 4, [(1, 0, 1), (3, 0, 1), (4, 0, 1), (9, 0, 1)])
        for j in range(1, 5):
            self.assertEqual(net_fewer(net, j), (2, j, net[2][4 - j:]))

    def test_the_net_of_a_record_for_fewer_layers(self):
        for n, record in some_records():
            for k in (1, 3, 6):
                net = net_of(n, record, k)
                for j in range(1, k + 1):
                    self.assertEqual(net_of(n, record, j), net_fewer(net, j))

    def test_no_layers(self):
        for k in range(1, 7):
            for net in ((1, k, []), (2, k, [(4, 0, 1)])):
                for j in no_number_within(1, k) + list(range(k + 1, 8)):
                    with self.assertRaises(NoLayers):
                        net_fewer(net, j)

    def test_no_net_ahead_of_no_layers(self):
        for thing in no_nets():
            for j in (1, 2, 0, None, 7):
                with self.assertRaises(NoNet):
                    net_fewer(thing, j)

    def test_what_is_told_is_the_askers_own(self):
        net = copy.deepcopy(NET)
        told = net_fewer(net, 2)
        told[2].clear()
        self.assertEqual(net, NET)
        self.assertEqual(net_fewer(net, 2), NET)


class TestRims(unittest.TestCase):
    def look_at(self, n, record, k):
        net = net_of(n, record, k)
        for t in sorted({0, record[-1][0] + 1} | {tie[0] for tie in record[::5]}):
            kept, whole = since(net[2], t), since(record, t)
            for side in all_sides(n):
                shown, there = rim(kept, side), rim(whole, side)
                self.assertTrue(len(shown) >= k or shown == there, (n, record, k, t, side))

    def test_at_least_k_or_all_of_the_record(self):
        for seed, (n, count) in enumerate([(1, 2), (2, 9), (3, 14), (4, 25), (5, 20), (6, 60)]):
            for k in range(1, 7):
                self.look_at(n, some_record(200 + seed, n, count), k)

    def test_ten_places(self):
        self.look_at(10, some_record(300, 10, 60), 3)
