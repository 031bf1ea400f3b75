import copy
import itertools
import unittest

from sinceply.errors import NoLayers, NoNet
from sinceply.links import least_link, links
from sinceply.nets import net_of
from sinceply.times import when
from tests.helpers import (
    MOST, NET, all_least_rims, cleared, joined, no_nets, no_number_within, since_by_the_words, some_records,
)

HALVES = (5, 3, [(1, 0, 1), (3, 0, 1), (4, 0, 1), (5, 2, 3), (6, 2, 3), (9, 1, 2)])
# A tree of links, two of one moment.
SOME = [(7, 1, 4), (3, 0, 1), (7, 2, 4), (0, 2, 3), (9, 5, 6)]


def least_by_the_words(some, a, b):
    # The greatest moment since which they are joined is the least one on the only way.
    return max([link[0] for link in some if joined(since_by_the_words(some, link[0]), a, b)], default=None)


def all_whens(n, ties, j):
    found = {pair: None for pair in itertools.combinations(range(n), 2)}
    for moment, x, y in ties:
        often = all_least_rims(n, since_by_the_words(ties, moment))
        for pair in found:
            if often[pair] >= j:
                found[pair] = moment
    return found


class TestLinks(unittest.TestCase):
    def look_at(self, n, told, wanted):
        self.assertIs(type(told), list)
        for at, link in enumerate(told):
            self.assertIs(type(link), tuple)
            moment, a, b = link
            self.assertTrue(0 <= a < b < n)
            self.assertFalse(joined(told[:at], a, b))
        for (a, b), moment in wanted.items():
            self.assertEqual(least_by_the_words(told, a, b), moment)
            self.assertEqual(least_link(n, told, a, b), moment)
            self.assertEqual(least_link(n, told, b, a), moment)

    def test_an_example(self):
        for j, count in ((1, 3), (2, 2), (3, 1)):
            told = links(HALVES, j)
            self.assertEqual(len(told), count)
            self.look_at(5, told, all_whens(5, HALVES[2], j))
        self.assertEqual(links(HALVES, 3), [(1, 0, 1)])

    def test_without_ties_and_of_one_place(self):
        for k in range(1, 7):
            self.assertEqual(links((1, k, []), k), [])
            self.assertEqual(links((10, k, []), 1), [])

    def test_the_first_and_the_last_moment(self):
        net = (3, 1, [(0, 0, 1), (MOST, 1, 2)])
        self.assertEqual(sorted(link[0] for link in links(net, 1)), [0, MOST])
        self.look_at(3, links(net, 1), {(0, 1): 0, (0, 2): 0, (1, 2): MOST})

    def test_by_the_words(self):
        for n, record in some_records():
            if n <= 5:
                for k in (1, 2, 3, 6):
                    net = net_of(n, record, k)
                    for j in range(1, k + 1):
                        told = links(net, j)
                        self.look_at(n, told, all_whens(n, net[2], j))
                        if k == 3:
                            self.look_at(n, told, all_whens(n, record, j))

    def test_ten_places_as_when_tells(self):
        for n, record in some_records():
            net = net_of(n, record, 4)
            for j in (1, 2, 4):
                wanted = {}
                for a, b in itertools.combinations(range(n), 2):
                    told = when(net, a, b, j)
                    wanted[(a, b)] = told[1] if told[0] == "since" else None
                self.look_at(n, links(net, j), wanted)

    def test_no_net_ahead_of_no_layers(self):
        for thing in no_nets():
            for j in (1, 0, None):
                with self.assertRaises(NoNet):
                    links(thing, j)

    def test_no_layers(self):
        for k in range(1, 7):
            for net in ((1, k, []), (2, k, [(4, 0, 1)])):
                for j in no_number_within(1, k):
                    with self.assertRaises(NoLayers):
                        links(net, j)

    def test_what_is_told_is_the_askers_own(self):
        for net in (NET, HALVES):
            own = copy.deepcopy(net)
            told = links(own, 2)
            before = copy.deepcopy(told)
            cleared(told)
            self.assertEqual(own, net)
            self.assertEqual(links(own, 2), before)


class TestLeastLink(unittest.TestCase):
    def test_links_in_whatever_order(self):
        for some in (SOME, SOME[::-1], sorted(SOME)):
            handed = list(some)
            for a, b, moment in ((0, 1, 3), (0, 4, 3), (1, 2, 7), (1, 4, 7), (0, 3, 0), (3, 4, 0), (5, 6, 9)):
                self.assertEqual(least_link(8, handed, a, b), moment)
                self.assertEqual(least_link(8, handed, b, a), moment)
            self.assertEqual(handed, some)

    def test_not_joined_by_links(self):
        for a, b in ((0, 5), (6, 3), (7, 0), (2, 7)):
            self.assertIsNone(least_link(8, SOME, a, b))
        self.assertIsNone(least_link(2, [], 0, 1))

    def test_a_moment_that_is_0_is_no_none(self):
        self.assertEqual(least_link(2, [(0, 0, 1)], 0, 1), 0)
        self.assertIsNot(least_link(2, [(0, 0, 1)], 1, 0), None)

    def test_great_moments(self):
        self.assertEqual(least_link(3, [(MOST, 0, 1), (MOST - 1, 1, 2)], 0, 2), MOST - 1)
