import copy
import unittest

from sinceply.errors import NoPlaces, NoTies
from sinceply.heavy import lightest, side_weight
from tests.helpers import (
    MOST, all_lists_unlike, all_sides, cleared, no_number_within, no_webs, some_web, some_webs, weight_by_the_words,
)

WEB = [(0, 1, 2), (1, 2, 3), (0, 2, 4), (0, 1, 5), (2, 3, 1), (0, 3, 6)]


class TestSideWeight(unittest.TestCase):
    def test_examples(self):
        self.assertEqual(side_weight(WEB, (0,)), 17)
        self.assertEqual(side_weight(WEB, (3,)), 7)
        self.assertEqual(side_weight(WEB, (1, 2)), 12)
        self.assertEqual(side_weight([(0, 1, MOST), (0, 1, MOST)], (1,)), 2 * MOST)

    def test_none_all_and_no_ties(self):
        self.assertEqual(side_weight(WEB, ()), 0)
        self.assertEqual(side_weight(WEB, (0, 1, 2, 3)), 0)
        self.assertEqual(side_weight([], (0,)), 0)

    def test_by_the_words(self):
        for n, heavy in some_webs():
            for side in list(all_sides(n))[:200]:
                own = copy.deepcopy(heavy)
                self.assertEqual(side_weight(own, side), weight_by_the_words(heavy, side))
                self.assertEqual(own, heavy)


class TestLightest(unittest.TestCase):
    def look_at(self, n, heavy):
        told = lightest(n, heavy)
        weight, side, flows = told
        self.assertEqual([type(part) for part in (told, weight, side, flows)], [tuple, int, tuple, list])
        sides = [some for some in all_sides(n) if some and 0 not in some]
        self.assertIn(side, sides)
        self.assertEqual(weight, min(weight_by_the_words(heavy, some) for some in sides))
        self.assertEqual(weight, weight_by_the_words(heavy, side))
        self.assertEqual(len(flows), n - 1)
        for v, flow in enumerate(flows, start=1):
            self.look_at_flow(n, heavy, weight, v, flow)

    def look_at_flow(self, n, heavy, weight, v, flow):
        self.assertIs(type(flow), list)
        self.assertEqual(len(flow), len(heavy))
        going = [0] * n
        for (a, b, most), amount in zip(heavy, flow):
            self.assertIs(type(amount), int)
            self.assertLessEqual(abs(amount), most)
            going[a] += amount
            going[b] -= amount
        wanted = {0: weight, v: -weight}
        self.assertEqual(going, [wanted.get(place, 0) for place in range(n)], (n, heavy, v, flow))

    def test_an_example(self):
        self.assertEqual(lightest(4, WEB)[:2], (7, (3,)))
        self.look_at(4, WEB)

    def test_one_place(self):
        self.assertIsNone(lightest(1, []))

    def test_two_places(self):
        self.assertEqual(lightest(2, []), (0, (1,), [[]]))
        self.assertEqual(lightest(2, [(0, 1, 1)]), (1, (1,), [[1]]))
        self.assertEqual(lightest(2, [(0, 1, MOST)] * 40), (40 * MOST, (1,), [[MOST] * 40]))

    def test_webs_in_parts(self):
        web = [(0, 1, 5), (2, 3, 7)]
        self.assertEqual(lightest(4, web), (0, (2, 3), [[0, 0], [0, 0], [0, 0]]))
        self.assertEqual(lightest(10, []), (0, lightest(10, [])[1], [[] for place in range(9)]))
        for heavy in (web, [], [(1, 2, 3), (2, 3, 3), (1, 3, 3)], [(0, 3, MOST)]):
            self.look_at(4, heavy)
            self.assertEqual(lightest(4, heavy)[0], 0)

    def test_no_more_goes_than_the_lightest_side_weighs(self):
        # Much could go to place 1, yet to place 2 goes but 1.
        web = [(0, 1, 100), (1, 2, 1)]
        self.assertEqual(lightest(3, web), (1, (2,), [[1, 0], [1, 1]]))

    def test_the_lightest_side_has_not_each_place(self):
        # Each place by itself weighs more than the two together.
        web = [(0, 1, 2), (2, 3, 9), (1, 2, 2), (0, 1, 9)]
        self.assertEqual(lightest(4, web)[:2], (2, (2, 3)))
        self.look_at(4, web)

    def test_flows_that_must_be_led_otherwise(self):
        # The shortest way to place 3 goes by the tie from 1 to 2, against the ways that are needed.
        web = [(0, 1, 1), (1, 2, 1), (2, 3, 1), (0, 4, 1), (2, 4, 1), (1, 5, 1), (3, 5, 1)]
        self.look_at(6, web)
        self.assertEqual(lightest(6, web)[0], 2)

    def test_against_a_ties_order(self):
        web = [(1, 2, 3), (0, 2, 3), (1, 3, 3)]
        told = lightest(4, web)
        self.assertEqual(told[0], 3)
        self.assertEqual(told[2], [[-3, 3, 0], [0, 3, 0], [-3, 3, 3]])

    def test_by_the_words(self):
        for n, heavy in some_webs():
            if n > 1:
                self.look_at(n, heavy)

    def test_many_webs(self):
        for seed in range(120):
            n = 2 + seed % 9
            self.look_at(n, some_web(3500 + seed, n, seed % 41, (1, 3, 50, MOST)[seed % 4]))

    def test_refusals_in_order(self):
        for n in no_number_within(1, 10):
            for heavy in (WEB, [], None, [(0, 0, 0)]):
                with self.assertRaises(NoPlaces):
                    lightest(n, heavy)
        for heavy in no_webs():
            with self.assertRaises(NoTies):
                lightest(3, heavy)
        for heavy in ([(0, 0, 1)], [(0, 1, 1)], None):
            with self.assertRaises(NoTies):
                lightest(1, heavy)

    def test_what_is_told_is_the_askers_own(self):
        for n, heavy in some_webs():
            own = copy.deepcopy(heavy)
            told = lightest(n, own)
            before = copy.deepcopy(told)
            self.assertTrue(all_lists_unlike(told))
            cleared(told)
            self.assertEqual(own, heavy)
            self.assertEqual(lightest(n, own), before)
