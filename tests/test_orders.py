import copy
import itertools
import random
import unittest

from sinceply.errors import NoPair, NoPlaces, NoTies
from sinceply.orders import bands, heads, look_at_heavy, order
from tests.helpers import (
    MOST, all_sides, no_number_within, no_webs, some_web, some_webs, weight_by_the_words,
)

WEB = [(0, 1, 2), (1, 2, 3), (0, 2, 4), (0, 1, 5), (2, 3, 1), (0, 3, 6)]


def order_by_the_words(n, heavy, first):
    row = [first]
    while len(row) < n:
        weights = {}
        for place in sorted(set(range(n)) - set(row)):
            weights[place] = 0
            for a, b, weight in heavy:
                if {a, b} - set(row) == {place}:
                    weights[place] += weight
        most = max(weights.values())
        row.append(min(place for place in weights if weights[place] == most))
    return row


def bands_by_the_words(heavy, row):
    told = {}
    for place in row:
        ahead = row[:row.index(place)]
        own = [at for at, tie in enumerate(heavy) if place in tie[:2] and set(tie[:2]) - {place} <= set(ahead)]

        def other_end(at):
            return ahead.index(sum(heavy[at][:2]) - place)

        low = 0
        for at in sorted(own, key=lambda at: (other_end(at), at)):
            told[at] = (low, low + heavy[at][2])
            low += heavy[at][2]
    return [told[at] for at in range(len(heavy))]


def some_rows(n):
    yield list(range(n))
    yield list(range(n))[::-1]
    for seed in range(3):
        row = list(range(n))
        random.Random(seed).shuffle(row)
        yield row


class TestLookAtHeavy(unittest.TestCase):
    def test_a_heavy_web(self):
        for n, heavy in some_webs():
            self.assertIsNone(look_at_heavy(n, heavy))

    def test_edges(self):
        for n in (1, 2, 10):
            self.assertIsNone(look_at_heavy(n, []))
        self.assertIsNone(look_at_heavy(2, [(0, 1, 1)]))
        self.assertIsNone(look_at_heavy(2, [(0, 1, MOST)]))
        self.assertIsNone(look_at_heavy(10, [(0, 9, 1), (8, 9, MOST)]))
        self.assertIsNone(look_at_heavy(2, [(0, 1, 7)] * 40))

    def test_no_ties(self):
        for heavy in no_webs():
            with self.assertRaises(NoTies):
                look_at_heavy(3, heavy)
        for heavy in ([(0, 0, 1)], [(0, 1, 1)]):
            with self.assertRaises(NoTies):
                look_at_heavy(1, heavy)

    def test_no_places_ahead_of_all_else(self):
        for n in no_number_within(1, 10):
            for heavy in ([], WEB, None, [(0, 0, 0)], [(0, 1, 1)] * 41):
                with self.assertRaises(NoPlaces):
                    look_at_heavy(n, heavy)


class TestOrder(unittest.TestCase):
    def test_an_example(self):
        # From 0 on: 1 weighs 7, 2 weighs 4, 3 weighs 6; then 2 weighs 7 and 3 still 6.
        self.assertEqual(order(4, WEB), [0, 1, 2, 3])
        self.assertEqual(order(4, WEB, 3), [3, 0, 1, 2])
        self.assertEqual(order(4, WEB, first=2), [2, 0, 1, 3])

    def test_of_several_the_least(self):
        self.assertEqual(order(4, [(0, 2, 5), (0, 3, 5)]), [0, 2, 3, 1])
        self.assertEqual(order(4, [(0, 3, 5), (0, 2, 5)]), [0, 2, 3, 1])
        self.assertEqual(order(4, [(0, 2, 2), (0, 3, 5), (0, 2, 3)]), [0, 2, 3, 1])

    def test_where_none_has_a_tie(self):
        for n in (1, 2, 10):
            self.assertEqual(order(n, []), list(range(n)))
            for first in range(n):
                others = [place for place in range(n) if place != first]
                self.assertEqual(order(n, [], first), [first] + others)
        self.assertEqual(order(5, [(3, 4, 1)]), [0, 1, 2, 3, 4])
        self.assertEqual(order(5, [(2, 4, 1)]), [0, 1, 2, 4, 3])

    def test_by_the_words(self):
        for n, heavy in some_webs():
            self.assertEqual(order(n, heavy), order_by_the_words(n, heavy, 0))
            for first in range(n):
                wanted = order_by_the_words(n, heavy, first)
                self.assertEqual(order(n, heavy, first), wanted)
                self.assertEqual(order(n, heavy, first=first), wanted)

    def test_refusals_in_order(self):
        for n in no_number_within(1, 10):
            for heavy, first in ((WEB, 0), ([], 0), (None, None), ([(0, 0, 0)], -1)):
                with self.assertRaises(NoPlaces):
                    order(n, heavy, first)
        for heavy in no_webs():
            for first in (0, 3, None):
                with self.assertRaises(NoTies):
                    order(3, heavy, first)

    def test_no_pair(self):
        for n, heavy in ((1, []), (4, []), (4, WEB)):
            for first in no_number_within(0, n - 1):
                with self.assertRaises(NoPair):
                    order(n, heavy, first)
                with self.assertRaises(NoPair):
                    order(n, heavy, first=first)

    def test_of_the_last_two_places_none_weighs_less_than_the_last(self):
        for n, heavy in some_webs():
            for first in range(n if n > 1 else 0):
                *_, other, last = order(n, heavy, first)
                least = min(weight_by_the_words(heavy, s) for s in all_sides(n) if (last in s) != (other in s))
                self.assertEqual(least, weight_by_the_words(heavy, (last,)))

    def test_what_is_told_is_the_askers_own(self):
        for n, heavy in some_webs():
            own = copy.deepcopy(heavy)
            told = order(n, own)
            before = list(told)
            told.clear()
            self.assertEqual(own, heavy)
            self.assertEqual(order(n, own), before)


class TestBands(unittest.TestCase):
    def test_an_example(self):
        self.assertEqual(bands(4, WEB, [0, 1, 2, 3]), [(0, 2), (4, 7), (0, 4), (2, 7), (6, 7), (0, 6)])
        self.assertEqual(bands(4, WEB, [3, 2, 1, 0]), [(10, 12), (0, 3), (6, 10), (12, 17), (0, 1), (0, 6)])

    def test_several_ties_to_one_place_in_the_lists_order(self):
        web = [(0, 1, 5), (1, 2, 7), (0, 1, 3), (1, 2, MOST), (0, 1, 1)]
        self.assertEqual(bands(3, web, [0, 1, 2]), [(0, 5), (0, 7), (5, 8), (7, MOST + 7), (8, 9)])
        self.assertEqual(
            bands(3, web, [2, 0, 1]),
            [(MOST + 7, MOST + 12), (0, 7), (MOST + 12, MOST + 15), (7, MOST + 7), (MOST + 15, MOST + 16)],
        )

    def test_without_ties(self):
        for n in (1, 2, 10):
            self.assertEqual(bands(n, [], list(range(n))), [])

    def test_by_the_words(self):
        for n, heavy in some_webs():
            for row in list(some_rows(n)) + [order(n, heavy, first) for first in range(n)]:
                told = bands(n, heavy, row)
                self.assertEqual(told, bands_by_the_words(heavy, row))
                self.assertTrue(all(type(band) is tuple for band in told))
                self.assertEqual([high - low for low, high in told], [weight for a, b, weight in heavy])

    def test_refusals_in_order(self):
        for n in no_number_within(1, 10):
            for heavy in (WEB, [], None, [(0, 0, 0)]):
                with self.assertRaises(NoPlaces):
                    bands(n, heavy, [0, 1, 2, 3])
        for heavy in no_webs():
            with self.assertRaises(NoTies):
                bands(3, heavy, [0, 1, 2])

    def test_what_is_told_is_the_askers_own(self):
        for n, heavy in some_webs():
            own = copy.deepcopy(heavy)
            row = list(range(n))
            told = bands(n, own, row)
            before = list(told)
            told.clear()
            self.assertEqual((own, row), (heavy, list(range(n))))
            self.assertEqual(bands(n, own, row), before)


class TestHeads(unittest.TestCase):
    def test_an_example(self):
        some = [(0, 2), (4, 7), (0, 4), (2, 7), (6, 7), (0, 6)]
        self.assertEqual(heads(some, 0), [0, 0, 0, 0, 0, 0])
        self.assertEqual(heads(some, 1), [1, 0, 1, 0, 0, 1])
        self.assertEqual(heads(some, 4), [2, 0, 4, 2, 0, 4])
        self.assertEqual(heads(some, 5), [2, 1, 4, 3, 0, 5])
        self.assertEqual(heads(some, 7), [2, 3, 4, 5, 1, 6])
        self.assertEqual(heads(some, 10 ** 59), [2, 3, 4, 5, 1, 6])
        self.assertEqual(heads([], 5), [])

    def numbers_for(self, some):
        ends = {end for band in some for end in band}
        near = {end + more for end in ends for more in (-1, 0, 1)}
        return sorted(number for number in near | {0, 1, 10 ** 40} if number >= 0)[:60]

    def test_by_the_words(self):
        for n, heavy in some_webs():
            some = bands(n, heavy, order(n, heavy))
            for number in self.numbers_for(some):
                wanted = [min(high, number) - low if min(high, number) > low else 0 for low, high in some]
                self.assertEqual(heads(some, number), wanted)

    def enough_on_every_side(self, n, heavy, some, number):
        told = heads(some, number)
        self.assertLessEqual(sum(told), number * (n - 1))
        headed = [(a, b, head) for (a, b, weight), head in zip(heavy, told)]
        for side in all_sides(n):
            over = weight_by_the_words(headed, side)
            if over < number:
                self.assertEqual(over, weight_by_the_words(heavy, side))

    def test_enough_on_every_side_for_every_number(self):
        for seed, (n, count) in enumerate(itertools.product((1, 2, 3, 4, 6), (0, 1, 5, 12, 40))):
            for most in (1, 4, 30, MOST):
                heavy = some_web(3300 + seed, n, count, most)
                for first in {0, n - 1}:
                    some = bands(n, heavy, order(n, heavy, first))
                    for number in self.numbers_for(some)[::3] + [0, 1, 10 ** 40]:
                        self.enough_on_every_side(n, heavy, some, number)

    def test_not_more_than_the_number_times_the_places_but_one_for_any_row(self):
        for n, heavy in some_webs():
            for row in some_rows(n):
                some = bands(n, heavy, row)
                for number in self.numbers_for(some):
                    self.assertLessEqual(sum(heads(some, number)), number * (n - 1))

    def test_what_is_told_is_the_askers_own(self):
        some = [(0, 2), (2, 5)]
        told = heads(some, 3)
        told.clear()
        self.assertEqual(some, [(0, 2), (2, 5)])
        self.assertEqual(heads(some, 3), [2, 1])
