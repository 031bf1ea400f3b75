import copy
import itertools
import unittest

from sinceply.cuts import least_cut, least_right, small_cuts
from sinceply.errors import NoNet
from sinceply.nets import net_of
from tests.helpers import (
    MOST, all_lists_unlike, all_sides, cleared, lead_apart, no_nets, rim_by_the_words, since_by_the_words, some_record,
    some_records,
)

# Two thick halves, 0 and 1, 2 and 3, held together by two ties; 4 hangs by one.
HALVES = (5, 3, [(2, 0, 1), (3, 0, 1), (4, 2, 3), (5, 2, 3), (6, 2, 3), (7, 1, 2), (8, 0, 3), (9, 3, 4)])
# All sides have three ties or more.
THICK = (3, 3, [(1, 0, 2), (2, 0, 1), (3, 0, 2), (4, 0, 2), (5, 1, 2), (6, 1, 2)])
# Two sides have one tie each.
LINE = (3, 2, [(4, 0, 1), (8, 1, 2)])


def cuts_by_the_words(n, k, ties, t):
    some = [(side, rim_by_the_words(since_by_the_words(ties, t), side)) for side in all_sides(n)]
    small = [(len(moments), side, moments) for side, moments in some if side and 0 not in side and len(moments) < k]
    return [(side, moments) for count, side, moments in sorted(small)]


def nets_and_moments():
    for n, record in some_records():
        for k in (1, 2, 3, 6):
            for t in (0, record[len(record) // 2][0] if record else 5, 3 * len(record) + 9):
                yield n, record, k, t


class TestSmallCuts(unittest.TestCase):
    def test_an_example(self):
        self.assertEqual(small_cuts(HALVES), [((4,), [9]), ((2, 3, 4), [7, 8])])
        self.assertEqual(small_cuts(HALVES, 9)[:2], [((1,), []), ((1, 2), [])])

    def test_one_place(self):
        for k in range(1, 7):
            self.assertEqual(small_cuts((1, k, [])), [])
            self.assertEqual(small_cuts((1, k, []), 7), [])

    def test_all_sides_are_thick(self):
        self.assertEqual(small_cuts(THICK), [])
        self.assertEqual(small_cuts((2, 1, [(MOST, 0, 1)]), MOST), [])

    def test_since_t(self):
        self.assertEqual(small_cuts(THICK, 1), [])
        self.assertEqual(small_cuts(THICK, t=3), [((1,), [5, 6]), ((1, 2), [3, 4])])
        self.assertEqual(small_cuts(THICK, t=4), [((1, 2), [4]), ((1,), [5, 6])])
        self.assertEqual(small_cuts(THICK, 7), [((1,), []), ((1, 2), []), ((2,), [])])

    def test_nets_in_parts(self):
        self.assertEqual(small_cuts((3, 1, [])), [((1,), []), ((1, 2), []), ((2,), [])])
        self.assertEqual(small_cuts((3, 1, [(1, 1, 2)])), [((1, 2), [])])
        self.assertEqual(len(small_cuts((10, 1, []))), 511)

    def test_the_order(self):
        self.assertEqual(small_cuts((4, 2, [(1, 0, 1), (2, 0, 2), (3, 0, 3)])), [((1,), [1]), ((2,), [2]), ((3,), [3])])
        self.assertEqual(small_cuts((3, 3, [(1, 0, 1), (2, 0, 2)])), [((1,), [1]), ((2,), [2]), ((1, 2), [1, 2])])

    def test_by_the_words_as_of_the_record(self):
        for n, record, k, t in nets_and_moments():
            net = net_of(n, record, k)
            told = small_cuts(net, t)
            self.assertEqual(told, cuts_by_the_words(n, k, net[2], t))
            self.assertEqual(told, cuts_by_the_words(n, k, record, t))
            self.assertEqual(small_cuts(net, t=t), told)

    def test_kinds(self):
        told = small_cuts(HALVES)
        self.assertIs(type(told), list)
        for cut in told:
            self.assertEqual([type(cut), type(cut[0]), type(cut[1])], [tuple, tuple, list])


class TestLeastCut(unittest.TestCase):
    def look_at_shows(self, n, ties, count, shows):
        self.assertIs(type(shows), list)
        self.assertEqual(len(shows), n - 1)
        for place, ways in enumerate(shows, start=1):
            self.assertEqual(len(ways), count)
            self.assertTrue(lead_apart(ties, 0, place, ways))

    def look_at(self, net, t):
        n, k, ties = net
        told = least_cut(net, t)
        self.assertIs(type(told), tuple)
        self.assertEqual(least_cut(net, t=t), told)
        self.assertIs(least_right(net, t, told), True)
        cuts, young = cuts_by_the_words(n, k, ties, t), since_by_the_words(ties, t)
        if n == 1:
            self.assertEqual(told, ("alone",))
        elif cuts:
            self.assertEqual(told[:2], ("cut", cuts[0][0]))
            self.look_at_shows(n, young, len(cuts[0][1]), told[2])
            self.assertEqual(len(told), 3)
        else:
            self.assertEqual(told[0], "thick")
            self.look_at_shows(n, young, k, told[1])
            self.assertEqual(len(told), 2)

    def test_alone(self):
        for k in range(1, 7):
            for t in (0, 3, MOST):
                self.look_at((1, k, []), t)

    def test_cut(self):
        self.assertEqual(least_cut(LINE), ("cut", (1, 2), [[[4]], [[4, 8]]]))
        self.assertEqual(least_cut(LINE, 5), ("cut", (1, 2), [[], []]))
        self.assertEqual(least_cut((2, 1, [])), ("cut", (1,), [[]]))
        self.assertEqual(least_cut((10, 6, [])), ("cut", (1,), [[]] * 9))
        for t in range(12):
            self.look_at(HALVES, t)

    def test_thick(self):
        self.assertEqual(least_cut((2, 1, [(3, 0, 1)])), ("thick", [[[3]]]))
        self.assertEqual(least_cut(THICK)[0], "thick")
        for t in range(8):
            self.look_at(THICK, t)

    def test_t_is_0_where_none_is_told(self):
        self.assertEqual(small_cuts((2, 2, [(0, 0, 1)])), [((1,), [0])])
        self.assertEqual(least_cut((2, 1, [(0, 0, 1)])), ("thick", [[[0]]]))

    def test_records(self):
        forms = []
        for n, record, k, t in nets_and_moments():
            net = net_of(n, record, k)
            self.look_at(net, t)
            forms.append(least_cut(net, t)[0])
        self.assertEqual(set(forms), {"alone", "cut", "thick"})


class TestLeastRight(unittest.TestCase):
    def says(self, wanted, net, t, told):
        handed = copy.deepcopy(told)
        for time in range(2):
            self.assertIs(least_right(net, t, handed), wanted, (net, t, told))
        self.assertEqual(handed, told)

    def test_alone(self):
        self.says(True, (1, 3, []), 0, ("alone",))
        self.says(True, (1, 3, []), 9, ("alone",))
        for net in (LINE, THICK, (2, 1, [])):
            self.says(False, net, 0, ("alone",))
        self.says(False, (1, 3, []), 0, ("thick", []))
        for side in ((), (0,), (1,)):
            self.says(False, (1, 3, []), 0, ("cut", side, []))

    def test_whichever_of_the_small_cuts_sides(self):
        self.says(True, LINE, 0, ("cut", (1, 2), [[[4]], [[4, 8]]]))
        self.says(True, LINE, 0, ("cut", (2,), [[[4]], [[4, 8]]]))
        for side in ((1,), (1, 2), (2,)):
            self.says(True, (3, 1, []), 0, ("cut", side, [[], []]))
            self.says(True, LINE, 9, ("cut", side, [[], []]))
        self.says(True, LINE, 5, ("cut", (1, 2), [[], []]))

    def test_wrong_sides(self):
        for side in ((), (0,), (0, 1), (0, 1, 2), (0, 2), (2, 1), (2, 2), (1, 2, 3), (3,), (-1, 2), (2, 10 ** 30)):
            self.says(False, LINE, 0, ("cut", side, [[[4]], [[4, 8]]]))
            self.says(False, (3, 1, []), 0, ("cut", side, [[], []]))

    def test_a_side_that_is_not_small(self):
        net = (2, 1, [(3, 0, 1)])
        self.says(False, net, 0, ("cut", (1,), [[[3]]]))
        self.says(False, net, 0, ("cut", (1,), [[]]))
        self.says(True, net, 4, ("cut", (1,), [[]]))
        self.says(False, THICK, 0, ("cut", (1,), least_cut(THICK)[1]))

    def test_a_side_that_is_not_least(self):
        net = (3, 3, [(1, 0, 1), (2, 0, 1), (3, 1, 2)])
        self.says(True, net, 0, ("cut", (2,), [[[1]], [[2, 3]]]))
        self.says(False, net, 0, ("cut", (1, 2), [[[1]], [[2, 3]]]))
        self.says(False, net, 0, ("cut", (1, 2), [[[1], [2]], [[2, 3]]]))
        self.says(False, net, 0, ("cut", (1, 2), [[[1], [2]], [[2, 3], [1, 3]]]))

    def test_wrong_shows(self):
        net = (3, 3, [(2, 0, 1), (3, 0, 2), (4, 0, 2), (5, 1, 2)])
        self.says(True, net, 0, ("cut", (1,), [[[2], [3, 5]], [[3], [4]]]))
        self.says(True, net, 0, ("cut", (1,), [[[2], [4, 5]], [[2, 5], [4]]]))
        for shows in (
            [], [[[2], [3, 5]]], [[[2], [3, 5]], [[3], [4]], []], [[[2], [3, 5]], [[3]]], [[[2]], [[3], [4]]],
            [[[2], [3, 5]], [[3], [4], [2, 5]]], [[[3], [4]], [[2], [3, 5]]], [[[2], [2]], [[3], [4]]],
            [[[2], [3, 5]], [[3], [3]]], [[[2], [3]], [[3], [4]]], [[[2], [5, 3]], [[3], [4]]],
            [[[2], []], [[3], [4]]], [[[2], [1]], [[3], [4]]], [[[2], [3, 5], [4, 5]], [[3], [4]]],
            [[[2], [3, 5]], [[4], [3, 5, 2]]], [[[2], [3, 4, 3, 5]], [[3], [4]]],
        ):
            self.says(False, net, 0, ("cut", (1,), shows))

    def test_a_tie_before_t(self):
        net = (2, 3, [(1, 0, 1), (2, 0, 1)])
        self.says(True, net, 0, ("cut", (1,), [[[1], [2]]]))
        self.says(False, net, 2, ("cut", (1,), [[[1], [2]]]))
        self.says(False, net, 2, ("cut", (1,), [[[1]]]))
        self.says(True, net, 2, ("cut", (1,), [[[2]]]))
        self.says(False, (2, 1, [(1, 0, 1)]), 2, ("thick", [[[1]]]))
        self.says(True, (2, 1, [(1, 0, 1)]), 1, ("thick", [[[1]]]))

    def test_thick_with_wrong_shows(self):
        net = (2, 2, [(1, 0, 1), (2, 0, 1)])
        self.says(True, net, 0, ("thick", [[[1], [2]]]))
        self.says(True, net, 0, ("thick", [[[2], [1]]]))
        for shows in ([], [[]], [[[1]]], [[[1], [1]]], [[[1], [2], [1]]], [[[1], [2]], []], [[[1], [3]]], [[[1], []]]):
            self.says(False, net, 0, ("thick", shows))

    def test_each_side_of_records(self):
        for seed in range(12):
            net = net_of(4, some_record(800 + seed, 4, 9), 4)
            told = least_cut(net)
            self.assertEqual(told[0], "cut")
            counts = {side: len(moments) for side, moments in small_cuts(net)}
            for side in all_sides(4):
                good = counts.get(side) == min(counts.values())
                self.says(good, net, 0, ("cut", side, told[2]))


class TestNoNet(unittest.TestCase):
    def test_ahead_of_all_else(self):
        for thing in no_nets():
            with self.assertRaises(NoNet):
                small_cuts(thing)
            with self.assertRaises(NoNet):
                small_cuts(thing, t=4)
            with self.assertRaises(NoNet):
                least_cut(thing)
            with self.assertRaises(NoNet):
                least_cut(thing, t=4)
            for told in (("alone",), ("thick", []), ("cut", (1,), [[]]), None, ()):
                with self.assertRaises(NoNet):
                    least_right(thing, 0, told)


class TestOwn(unittest.TestCase):
    def test_what_is_told_is_the_askers_own(self):
        nets = [HALVES, THICK, LINE, (3, 1, []), (1, 1, []), (10, 6, [])]
        for ask, net, t in itertools.product((small_cuts, least_cut), nets, (0, 5)):
            own = copy.deepcopy(net)
            told = ask(own, t)
            before = copy.deepcopy(told)
            self.assertTrue(all_lists_unlike(told))
            cleared(told)
            self.assertEqual(own, net)
            self.assertEqual(ask(own, t), before)
