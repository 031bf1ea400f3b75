import copy
import functools
import itertools
import unittest

from sinceply.errors import Clash, NoNet, NoPair, NoTies, Unlike
from sinceply.laying import laid, net_come, net_melted
from sinceply.nets import is_net, net_fewer, net_of, net_since
from tests.helpers import (
    MOST, NET, TIES, cleared, net_by_the_words, no_nets, no_pairs, no_ties, since_by_the_words, some_record,
    some_records,
)

OTHER = (3, 2, [(3, 0, 1), (7, 0, 2), (9, 0, 1), (11, 1, 2)])
BOTH = (3, 2, [(7, 0, 2), (9, 0, 1), (11, 1, 2), (MOST, 0, 1)])


def melted_by_the_words(ties, a, b):
    told = []
    for moment, *ends in ties:
        low, high = sorted(a if end == b else end for end in ends)
        told.append((moment, low, high))
    return told


def split(record, count):
    return [record[at::count] for at in range(count)]


class TestLaid(unittest.TestCase):
    def test_an_example(self):
        self.assertEqual(laid(NET, OTHER), BOTH)
        self.assertEqual(laid(OTHER, NET), BOTH)
        self.assertIs(is_net(laid(NET, OTHER)), True)

    def test_with_itself(self):
        for net in (NET, OTHER, (1, 1, []), (10, 6, [])):
            self.assertEqual(laid(net, net), net)

    def test_with_a_net_without_ties(self):
        self.assertEqual(laid(NET, (3, 2, [])), NET)
        self.assertEqual(laid((3, 2, []), NET), NET)
        self.assertEqual(laid((1, 6, []), (1, 6, [])), (1, 6, []))

    def test_all_ties_of_both(self):
        for n, record in some_records():
            for k in (1, 2, 6):
                nets = [net_of(n, some, k) for some in split(record, 2)]
                wanted = net_by_the_words(n, nets[0][2] + nets[1][2], k)
                self.assertEqual(laid(nets[0], nets[1]), wanted)
                self.assertEqual(laid(nets[1], nets[0]), wanted)

    def test_ties_in_common(self):
        for n, record in some_records():
            one, other = net_of(n, record[: len(record) // 2 + 3], 2), net_of(n, record[len(record) // 2 - 3:], 2)
            wanted = net_by_the_words(n, one[2] + other[2], 2)
            self.assertEqual(laid(one, other), wanted)
            self.assertEqual(laid(other, one), wanted)

    def test_more_than_sixty_ties(self):
        pairs = [pair for pair in itertools.combinations(range(10), 2)] * 4
        ties = [(moment, a, b) for moment, (a, b) in enumerate(pairs)]
        one, other = net_of(10, ties[::2], 6), net_of(10, ties[1::2], 6)
        self.assertEqual([len(one[2]), len(other[2])], [54, 54])
        told = laid(one, other)
        self.assertEqual(told, net_by_the_words(10, ties, 6))
        self.assertEqual(len(told[2]), 54)
        self.assertEqual(laid(other, one), told)

    def test_no_net_in_either_place_ahead_of_all_else(self):
        for thing in no_nets():
            for net in (NET, (1, 1, []), (3, 2, [(2, 0, 2)]), None, thing):
                with self.assertRaises(NoNet):
                    laid(thing, net)
                with self.assertRaises(NoNet):
                    laid(net, thing)

    def test_unlike_ahead_of_clash(self):
        for other in ((2, 2, []), (4, 2, [(2, 0, 2)]), (3, 1, [(2, 0, 2)]), (3, 3, [(2, 0, 2)]), (2, 1, [(2, 0, 1)])):
            with self.assertRaises(Unlike):
                laid(NET, other)
            with self.assertRaises(Unlike):
                laid(other, NET)

    def test_clash_with_the_least_moment(self):
        other = (3, 2, [(2, 0, 1), (5, 0, 2), (7, 1, 2), (MOST, 0, 1)])
        for one, two in ((NET, other), (other, NET)):
            with self.assertRaises(Clash) as caught:
                laid(one, two)
            self.assertEqual(caught.exception.moment, 5)
        for moment in (0, MOST):
            with self.assertRaises(Clash) as caught:
                laid((3, 1, [(moment, 0, 1)]), (3, 1, [(moment, 0, 2)]))
            self.assertEqual(caught.exception.moment, moment)


class TestMelted(unittest.TestCase):
    NET = (4, 2, [(1, 0, 1), (2, 1, 2), (3, 2, 3), (4, 0, 3), (5, 1, 3)])

    def test_ends_are_put_in_order_again(self):
        self.assertEqual(net_melted((4, 2, [(1, 2, 3)]), 0, 2), (4, 2, [(1, 0, 3)]))
        self.assertEqual(net_melted((4, 2, [(1, 0, 1)]), 3, 0), (4, 2, [(1, 1, 3)]))
        self.assertEqual(net_melted((4, 2, [(1, 0, 1)]), 3, 1), (4, 2, [(1, 0, 3)]))

    def test_a_tie_that_then_goes_from_a_place_to_itself(self):
        self.assertEqual(net_melted((2, 1, [(1, 0, 1)]), 0, 1), (2, 1, []))
        self.assertEqual(net_melted((2, 6, [(1, 0, 1), (2, 0, 1)]), 1, 0), (2, 6, []))

    def test_rings_that_close_by_it(self):
        line = (4, 1, [(1, 0, 1), (2, 1, 2), (3, 2, 3)])
        self.assertEqual(net_melted(line, 0, 3), (4, 1, [(2, 1, 2), (3, 0, 2)]))
        self.assertEqual(net_melted(line, 3, 0), (4, 1, [(2, 1, 2), (3, 2, 3)]))
        self.assertEqual(net_melted(self.NET, 0, 2), (4, 2, [(2, 0, 1), (3, 0, 3), (4, 0, 3), (5, 1, 3)]))

    def test_place_b_has_no_ties_then(self):
        for n, record in some_records():
            net = net_of(n, record, 3)
            for a, b in itertools.permutations(range(min(n, 4)), 2):
                told = net_melted(net, a, b)
                self.assertEqual(told[:2], (n, 3))
                self.assertNotIn(b, [end for tie in told[2] for end in tie[1:]])

    def test_by_the_words(self):
        for n, record in some_records():
            for k in (1, 2, 6):
                net = net_of(n, record, k)
                for a, b in itertools.permutations(range(min(n, 4)), 2):
                    wanted = net_by_the_words(n, melted_by_the_words(net[2], a, b), k)
                    self.assertEqual(net_melted(net, a, b), wanted)

    def test_no_net_first(self):
        for thing in no_nets():
            for a, b in ((0, 1), (0, 0), (None, "a")):
                with self.assertRaises(NoNet):
                    net_melted(thing, a, b)

    def test_no_pair(self):
        for n in (1, 2, 3, 10):
            for ties in ([], [(4, 0, n - 1)][: n - 1]):
                for a, b in no_pairs(n):
                    with self.assertRaises(NoPair):
                        net_melted((n, 2, ties), a, b)


class TestCome(unittest.TestCase):
    def test_one_that_closes_no_ring(self):
        self.assertEqual(net_come((3, 1, [(4, 0, 1)]), (7, 1, 2)), (3, 1, [(4, 0, 1), (7, 1, 2)]))
        self.assertEqual(net_come((3, 1, []), (0, 0, 2)), (3, 1, [(0, 0, 2)]))

    def test_one_that_pushes_others_out(self):
        self.assertEqual(net_come((2, 2, [(4, 0, 1), (5, 0, 1)]), (6, 0, 1)), (2, 2, [(5, 0, 1), (6, 0, 1)]))
        ring = (3, 1, [(4, 0, 1), (5, 1, 2)])
        self.assertEqual(net_come(ring, (9, 0, 2)), (3, 1, [(5, 1, 2), (9, 0, 2)]))

    def test_one_that_is_left_out_itself(self):
        net = (3, 1, [(4, 0, 1), (5, 1, 2)])
        for tie in ((0, 0, 2), (3, 0, 1), (9, 1, 1), (MOST, 0, 0)):
            self.assertEqual(net_come(net, tie), net)

    def test_one_older_than_all(self):
        self.assertEqual(net_come((3, 1, [(4, 0, 1)]), (0, 0, 2)), (3, 1, [(0, 0, 2), (4, 0, 1)]))
        self.assertEqual(net_come((2, 2, [(4, 0, 1)]), (0, 0, 1)), (2, 2, [(0, 0, 1), (4, 0, 1)]))

    def test_the_same_tie_again_changes_nothing(self):
        for tie in TIES:
            self.assertEqual(net_come(NET, tie), NET)

    def test_by_the_words(self):
        for n, record in some_records():
            for k in (1, 3):
                net = net_of(n, record, k)
                for tie in some_record(900 + n, n, 12, 400):
                    if tie[0] not in [other[0] for other in net[2]]:
                        self.assertEqual(net_come(net, tie), net_by_the_words(n, net[2] + [tie], k))

    def test_no_net_first(self):
        for thing in no_nets():
            for tie in ((2, 0, 1), (2, 0, 2), None):
                with self.assertRaises(NoNet):
                    net_come(thing, tie)

    def test_no_ties_ahead_of_clash(self):
        for tie in no_ties():
            for net in (NET, (3, 1, [])):
                with self.assertRaises(NoTies):
                    net_come(net, tie)

    def test_clash_with_its_moment(self):
        for moment, a, b in TIES:
            for tie in ((moment, 0, 0), (moment, 2, 2), (moment, 0, 2 if b == 1 else 1)):
                with self.assertRaises(Clash) as caught:
                    net_come(NET, tie)
                self.assertEqual(caught.exception.moment, moment)


class TestExact(unittest.TestCase):
    def test_two_records_together(self):
        for n, record in some_records():
            for k in (1, 2, 4, 6):
                for some in (split(record, 2), [record[:20], record[10:]]):
                    nets = [net_of(n, one, k) for one in some]
                    self.assertEqual(net_of(n, record, k), laid(nets[0], nets[1]))

    def test_since_and_fewer_layers(self):
        for n, record in some_records():
            net = net_of(n, record, 4)
            for t in (0, 5, 30, 3 * len(record) + 9):
                self.assertEqual(net_of(n, since_by_the_words(record, t), 4), net_since(net, t))
            for j in range(1, 5):
                self.assertEqual(net_of(n, record, j), net_fewer(net, j))

    def test_the_melted_record(self):
        for n, record in some_records():
            for k in (1, 2, 6):
                net = net_of(n, record, k)
                for a, b in itertools.permutations(range(min(n, 4)), 2):
                    self.assertEqual(net_of(n, melted_by_the_words(record, a, b), k), net_melted(net, a, b))

    def test_any_order_and_bracketing_once_or_twice(self):
        for n, record in some_records():
            nets = [net_of(n, some, 2) for some in split(record, 3)]
            wanted = net_of(n, record, 2)
            for one, two, three in itertools.permutations(nets):
                self.assertEqual(laid(laid(one, two), three), wanted)
                self.assertEqual(laid(one, laid(two, three)), wanted)
                self.assertEqual(laid(laid(one, laid(two, one)), laid(three, two)), wanted)

    def test_ties_told_one_by_one_in_any_order(self):
        for n, record in some_records():
            for row in (record, record[::-1], record[1::2] + record[::2] + record[::3]):
                self.assertEqual(functools.reduce(net_come, row, (n, 3, [])), net_of(n, record, 3))


class TestOwn(unittest.TestCase):
    ASKED = ((laid, (NET, OTHER)), (laid, (NET, NET)), (net_melted, (NET, 0, 2)), (net_come, (NET, (8, 0, 1))),
             (net_come, (NET, TIES[0])))

    def test_what_is_told_is_the_askers_own(self):
        for ask, handed in self.ASKED:
            own = copy.deepcopy(handed)
            told = ask(*own)
            before = copy.deepcopy(told)
            self.assertIs(type(told), tuple)
            cleared(told)
            self.assertEqual(own, handed)
            self.assertEqual(ask(*own), before)

    def test_what_is_refused_changes_nothing(self):
        one, other = copy.deepcopy(NET), (3, 2, [(2, 0, 2)])
        with self.assertRaises(Clash):
            laid(one, other)
        with self.assertRaises(Clash):
            net_come(one, (2, 0, 2))
        self.assertEqual([one, other], [NET, (3, 2, [(2, 0, 2)])])
