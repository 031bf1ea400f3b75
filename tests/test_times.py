import copy
import itertools
import unittest

from sinceply.errors import NoLayers, NoNet, NoPair
from sinceply.nets import net_of
from sinceply.times import classes, when
from tests.helpers import (
    MOST, NET, TIES, all_least_rims, all_lists_unlike, cleared, joined, lead_apart, least_rim, no_nets,
    no_number_within, no_pairs, rim_by_the_words, since_by_the_words, some_record, some_records,
)

# 0 and 1 hang together three times, 2 with 3 twice, both halves once; 4 with none.
HALVES = (5, 3, [(1, 0, 1), (3, 0, 1), (4, 0, 1), (5, 2, 3), (6, 2, 3), (9, 1, 2)])


def classes_by_the_words(n, ties, j):
    often = all_least_rims(n, ties)
    return sorted({
        tuple(b for b in range(n) if a == b or often[(a, b)] >= j) for a in range(n)
    })


def when_by_the_words(n, ties, a, b, j):
    since = [moment for moment, x, y in ties if least_rim(n, since_by_the_words(ties, moment), a, b) >= j]
    return max(since, default=None)


class TestClasses(unittest.TestCase):
    def test_an_example(self):
        self.assertEqual(classes(HALVES, 1), [(0, 1, 2, 3), (4,)])
        self.assertEqual(classes(HALVES, 2), [(0, 1), (2, 3), (4,)])
        self.assertEqual(classes(HALVES, 3), [(0, 1), (2,), (3,), (4,)])

    def test_since_t(self):
        self.assertEqual(classes(HALVES, 3, 1), [(0, 1), (2,), (3,), (4,)])
        self.assertEqual(classes(HALVES, 3, 2), [(0,), (1,), (2,), (3,), (4,)])
        self.assertEqual(classes(HALVES, 1, t=5), [(0,), (1, 2, 3), (4,)])
        self.assertEqual(classes(HALVES, 1, t=9), [(0,), (1, 2), (3,), (4,)])
        self.assertEqual(classes(HALVES, 1, t=MOST * MOST), [(0,), (1,), (2,), (3,), (4,)])

    def test_t_is_0_where_none_is_told(self):
        self.assertEqual(classes((2, 1, [(0, 0, 1)]), 1), [(0, 1)])

    def test_one_and_ten_places(self):
        for k in range(1, 7):
            for j in range(1, k + 1):
                self.assertEqual(classes((1, k, []), j), [(0,)])
                self.assertEqual(classes((10, k, []), j), [(place,) for place in range(10)])
        line = [(place, place, place + 1) for place in range(9)]
        self.assertEqual(classes((10, 2, line), 1), [tuple(range(10))])
        self.assertEqual(classes((10, 2, line), 1, 4), [(0,), (1,), (2,), (3,), (4, 5, 6, 7, 8, 9)])

    def test_places_between_that_are_of_another_class(self):
        net = (4, 2, [(1, 0, 2), (2, 1, 3), (3, 0, 2), (4, 1, 3)])
        self.assertEqual(classes(net, 1), [(0, 2), (1, 3)])
        self.assertEqual(classes(net, 2), [(0, 2), (1, 3)])
        self.assertEqual(classes(net, 2, 2), [(0,), (1, 3), (2,)])

    def test_together_by_ways_that_leave_the_class(self):
        star = (4, 2, [(1, 0, 2), (2, 1, 2), (3, 0, 3), (4, 1, 3)])
        self.assertEqual(classes(star, 2), [(0, 1, 2, 3)])
        wide = net_of(5, [(1, 0, 2), (2, 1, 2), (3, 0, 3), (4, 1, 3), (5, 0, 4), (6, 1, 4)], 3)
        self.assertEqual(classes(wide, 3), [(0, 1), (2,), (3,), (4,)])

    def test_by_the_words_as_of_the_record(self):
        for n, record in some_records():
            moments = [tie[0] for tie in record]
            for t in [0, 3 * len(record) + 9] + moments[:: 9 if n <= 5 else 25]:
                for k in (1, 3, 6):
                    net = net_of(n, record, k)
                    for j in range(1, k + 1):
                        told = classes(net, j, t)
                        self.assertEqual(told, classes_by_the_words(n, since_by_the_words(net[2], t), j))
                        self.assertEqual(told, classes_by_the_words(n, since_by_the_words(record, t), j))

    def test_refusals(self):
        for thing in no_nets():
            for j in (1, 0, None):
                with self.assertRaises(NoNet):
                    classes(thing, j)
        for k in range(1, 7):
            for net in ((1, k, []), (2, k, [(4, 0, 1)])):
                for j in no_number_within(1, k):
                    with self.assertRaises(NoLayers):
                        classes(net, j)
                    with self.assertRaises(NoLayers):
                        classes(net, j, t=5)


class TestWhen(unittest.TestCase):
    def look_at(self, n, ties, a, b, j, told):
        self.assertIs(type(told), tuple)
        wanted = when_by_the_words(n, ties, a, b, j)
        if wanted is None:
            self.assertEqual((told[0], len(told)), ("never", 2))
        else:
            self.assertEqual((told[:2], len(told)), (("since", wanted), 4))
            self.assertEqual(len(told[2]), j)
            self.assertTrue(lead_apart(since_by_the_words(ties, wanted), a, b, told[2]))
        side = told[-1]
        self.assertIs(type(side), tuple)
        self.assertEqual(side, tuple(sorted(set(side) & set(range(n)))))
        self.assertTrue(a in side and b not in side)
        later = ties if wanted is None else since_by_the_words(ties, wanted + 1)
        self.assertLess(len(rim_by_the_words(later, side)), j)

    def test_an_example(self):
        for j, t in ((1, 4), (2, 3), (3, 1)):
            self.assertEqual(when(HALVES, 0, 1, j)[:2], ("since", t))
            self.assertEqual(when(HALVES, 1, 0, j)[:2], ("since", t))
        self.assertEqual(when(HALVES, 0, 3, 1)[:2], ("since", 4))
        self.assertEqual(when(HALVES, 0, 3, 2), ("never", (0, 1)))
        self.assertEqual(when(HALVES, 4, 0, 1), ("never", (4,)))
        self.assertEqual(when(HALVES, 1, 2, 1), ("since", 9, [[9]], (1,)))

    def test_at_the_first_and_the_last_moment(self):
        self.assertEqual(when((2, 1, [(0, 0, 1)]), 0, 1, 1), ("since", 0, [[0]], (0,)))
        self.assertEqual(when((2, 1, [(MOST, 0, 1)]), 1, 0, 1), ("since", MOST, [[MOST]], (1,)))
        self.assertEqual(when((2, 2, [(0, 0, 1), (MOST, 0, 1)]), 0, 1, 2)[:2], ("since", 0))

    def test_without_ties(self):
        self.assertEqual(when((10, 6, []), 9, 0, 6), ("never", (9,)))

    def test_by_the_words_as_of_the_record(self):
        for n, record in some_records():
            for k in (1, 2, 3, 6):
                net = net_of(n, record, k)
                for a, b in list(itertools.permutations(range(n), 2))[:: 1 if n <= 3 else 7 if n <= 5 else 60]:
                    for j in range(1, k + 1):
                        told = when(net, a, b, j)
                        self.look_at(n, net[2], a, b, j, told)
                        if n <= 5:
                            self.look_at_record(n, record, a, b, j, told)

    def look_at_record(self, n, record, a, b, j, told):
        wanted = when_by_the_words(n, record, a, b, j)
        self.assertEqual(told[1] if told[0] == "since" else None, wanted)

    def test_once_is_as_joined(self):
        for seed in range(5):
            record = some_record(1200 + seed, 6, 14)
            net = net_of(6, record, 2)
            for a, b in itertools.combinations(range(6), 2):
                since = [tie[0] for tie in record if joined(since_by_the_words(record, tie[0]), a, b)]
                told = when(net, a, b, 1)
                self.assertEqual(told[1] if told[0] == "since" else None, max(since, default=None))

    def test_no_net_ahead_of_all_else(self):
        for thing in no_nets():
            for a, b, j in ((0, 1, 1), (0, 0, 1), (0, 1, 0), (None, None, None)):
                with self.assertRaises(NoNet):
                    when(thing, a, b, j)

    def test_no_layers_ahead_of_no_pair(self):
        for k in range(1, 7):
            for net in ((2, k, []), (2, k, [(4, 0, 1)])):
                for j in no_number_within(1, k):
                    for a, b in ((0, 1), (0, 0), (None, "1")):
                        with self.assertRaises(NoLayers):
                            when(net, a, b, j)

    def test_no_pair(self):
        for n, ties in ((1, []), (3, TIES), (10, [])):
            for a, b in no_pairs(n):
                for j in (1, 2):
                    with self.assertRaises(NoPair):
                        when((n, 2, ties), a, b, j)


class TestOwn(unittest.TestCase):
    def test_what_is_told_is_the_askers_own(self):
        net = net_of(5, some_record(1300, 5, 40), 4)
        asked = [(classes, (net, 2)), (classes, (net, 4, 60)), (classes, (NET, 1)), (when, (NET, 0, 2, 2))]
        asked += [(when, (net, a, b, j)) for a, b in ((0, 1), (4, 2)) for j in range(1, 5)]
        for ask, handed in asked:
            own = copy.deepcopy(handed)
            told = ask(*own)
            before = copy.deepcopy(told)
            self.assertTrue(all_lists_unlike(told))
            cleared(told)
            self.assertEqual(own, handed)
            self.assertEqual(ask(*own), before)
