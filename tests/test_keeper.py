import copy
import random
import unittest

from sinceply.errors import Clash, NoDeed, NoLayers, NoNet, NoPlaces, NoTies, PlyError, Unlike
from sinceply.keeper import Keeper
from sinceply.moves import moves
from sinceply.nets import net_of
from tests.helpers import (
    MOST, NET, TIES, net_by_the_words, no_nets, no_number_within, no_ties, some_record, since_by_the_words,
)


def keeper_of(n, k, ties):
    keeper = Keeper(n, k)
    for tie in ties:
        keeper.come(tie)
    return keeper


class TestNew(unittest.TestCase):
    def test_a_net_without_ties(self):
        for n in range(1, 11):
            for k in range(1, 7):
                self.assertEqual(Keeper(n, k).net(), (n, k, []))

    def test_no_places_ahead_of_no_layers(self):
        for n in no_number_within(1, 10):
            for k in (1, 0, 7, None, n):
                with self.assertRaises(NoPlaces):
                    Keeper(n, k)

    def test_no_layers(self):
        for k in no_number_within(1, 6):
            with self.assertRaises(NoLayers):
                Keeper(3, k)

    def test_two_keepers_have_nothing_in_common(self):
        one, other = Keeper(3, 2), Keeper(3, 2)
        one.come((1, 0, 1))
        one.forget(1)
        self.assertEqual(other.net(), (3, 2, []))
        self.assertEqual(other.come((0, 0, 1)), [(0, 0, 1)])
        other.back()
        with self.assertRaises(NoDeed):
            other.back()
        self.assertEqual(one.net(), (3, 2, [(1, 0, 1)]))


class TestCome(unittest.TestCase):
    def test_moves(self):
        keeper = Keeper(3, 2)
        self.assertEqual(keeper.come((4, 1, 2)), [(4, 0, 1)])
        self.assertEqual(keeper.come((6, 0, 2)), [(6, 0, 1)])
        self.assertEqual(keeper.come((2, 0, 1)), [(2, 0, 1), (2, 1, 2)])
        self.assertEqual(keeper.come((7, 1, 2)), [(7, 0, 1), (4, 1, 2)])
        self.assertEqual(keeper.net(), (3, 2, [(2, 0, 1), (4, 1, 2), (6, 0, 2), (7, 1, 2)]))

    def test_a_tie_that_it_has(self):
        keeper = keeper_of(3, 2, TIES)
        self.assertEqual(keeper.net(), NET)
        for tie in TIES:
            self.assertEqual(keeper.come(tie), [])
            self.assertEqual(keeper.net(), NET)

    def test_a_tie_that_is_left_out_has_moves_each_time(self):
        keeper = keeper_of(2, 1, [(5, 0, 1)])
        for time in range(2):
            self.assertEqual(keeper.come((3, 0, 1)), [(3, 0, 1), (3, 1, 0)])
            self.assertEqual(keeper.come((4, 1, 1)), [(4, 0, 1), (4, 1, 0)])
            self.assertEqual(keeper.net(), (2, 1, [(5, 0, 1)]))

    def test_edges(self):
        keeper = Keeper(10, 1)
        self.assertEqual(keeper.come((0, 0, 9)), [(0, 0, 1)])
        self.assertEqual(keeper.come((MOST, 0, 9)), [(MOST, 0, 1), (0, 1, 0)])
        self.assertEqual(keeper.net(), (10, 1, [(MOST, 0, 9)]))

    def test_by_the_words(self):
        for seed, (n, k, count) in enumerate([(1, 3, 9), (2, 1, 20), (2, 6, 30), (3, 2, 40), (5, 3, 60), (10, 6, 60)]):
            record = some_record(5000 + seed, n, count)
            row = list(record)
            random.Random(seed).shuffle(row)
            keeper = Keeper(n, k)
            come = []
            for tie in row:
                self.assertEqual(keeper.come(tie), moves(n, sorted(come), k, tie))
                come.append(tie)
            self.assertEqual(keeper.net(), net_by_the_words(n, record, k))

    def test_more_than_fifty_nine_ties_one_by_one(self):
        for n, k in ((2, 1), (3, 6), (10, 6)):
            record = some_record(5100 + n, n, 150)
            keeper = keeper_of(n, k, record)
            self.assertEqual(keeper.net(), net_by_the_words(n, record, k))

    def test_no_ties(self):
        for keeper in (Keeper(3, 2), keeper_of(3, 2, TIES)):
            before = keeper.net()
            for tie in no_ties():
                with self.assertRaises(NoTies):
                    keeper.come(tie)
            keeper.forget(MOST)
            for tie in no_ties():
                with self.assertRaises(NoTies):
                    keeper.come(tie)
            keeper.back()
            self.assertEqual(keeper.net(), before)

    def test_clash(self):
        keeper = keeper_of(3, 2, TIES)
        for tie in ((2, 0, 2), (5, 0, 1), (5, 1, 1), (MOST, 1, 2)):
            with self.assertRaises(Clash) as caught:
                keeper.come(tie)
            self.assertEqual(caught.exception.moment, tie[0])
        self.assertEqual(keeper.net(), NET)

    def test_no_clash_with_what_is_let_go_or_left_out(self):
        keeper = keeper_of(2, 1, [(3, 0, 1), (5, 0, 1)])
        self.assertEqual(keeper.come((3, 1, 1)), [(3, 0, 1), (3, 1, 0)])
        keeper.forget(6)
        self.assertEqual(keeper.come((5, 0, 0)), [])


class TestForget(unittest.TestCase):
    def test_what_came_before(self):
        keeper = keeper_of(3, 2, TIES)
        self.assertIsNone(keeper.forget(5))
        self.assertEqual(keeper.net(), (3, 2, TIES[1:]))
        keeper.forget(t=6)
        self.assertEqual(keeper.net(), (3, 2, TIES[2:]))
        keeper.forget(MOST)
        self.assertEqual(keeper.net(), (3, 2, TIES[3:]))

    def test_a_tie_is_let_go_where_its_moment_is_below(self):
        keeper = Keeper(3, 2)
        keeper.forget(5)
        self.assertEqual(keeper.come((4, 0, 1)), [])
        self.assertEqual(keeper.come((0, 1, 1)), [])
        self.assertEqual(keeper.net(), (3, 2, []))
        self.assertEqual(keeper.come((5, 0, 1)), [(5, 0, 1)])
        self.assertEqual(keeper.net(), (3, 2, [(5, 0, 1)]))

    def test_the_greatest_counts(self):
        keeper = keeper_of(3, 2, TIES)
        keeper.forget(6)
        keeper.forget(3)
        keeper.forget(0)
        self.assertEqual(keeper.come((5, 0, 1)), [])
        self.assertEqual(keeper.come((6, 0, 1)), [(6, 0, 1), (6, 1, 2)])
        self.assertEqual(keeper.net(), (3, 2, [(6, 0, 1)] + TIES[2:]))

    def test_no_moment(self):
        keeper = keeper_of(3, 2, TIES)
        for t in no_number_within(0, MOST):
            with self.assertRaises(NoTies):
                keeper.forget(t)
        self.assertEqual(keeper.net(), NET)
        self.assertEqual(keeper.come((0, 0, 1))[0], (0, 0, 1))


class TestLay(unittest.TestCase):
    def test_a_net(self):
        keeper = keeper_of(3, 2, [(5, 1, 2), (6, 0, 2)])
        self.assertIsNone(keeper.lay((3, 2, [(5, 1, 2), (7, 0, 1)])))
        self.assertEqual(keeper.net(), (3, 2, [(5, 1, 2), (6, 0, 2), (7, 0, 1)]))

    def test_what_came_since_its_moment(self):
        keeper = Keeper(3, 2)
        keeper.forget(6)
        keeper.lay(NET)
        self.assertEqual(keeper.net(), (3, 2, TIES[2:]))

    def test_more_than_sixty_ties_together(self):
        record = some_record(5200, 10, 200)
        keeper = Keeper(10, 6)
        for at in range(0, 200, 40):
            keeper.lay(net_of(10, record[at:at + 40], 6))
        self.assertEqual(keeper.net(), net_by_the_words(10, record, 6))

    def test_no_net(self):
        keeper = keeper_of(3, 2, TIES)
        for t in (0, MOST):
            keeper.forget(t)
            before = keeper.net()
            for thing in no_nets():
                with self.assertRaises(NoNet):
                    keeper.lay(thing)
            self.assertEqual(keeper.net(), before)

    def test_unlike(self):
        keeper = keeper_of(3, 2, TIES)
        for net in ((3, 1, []), (2, 2, []), (4, 2, [(5, 0, 1)]), (3, 3, [(5, 0, 1)]), (2, 3, [])):
            with self.assertRaises(Unlike):
                keeper.lay(net)
        self.assertEqual(keeper.net(), NET)

    def test_clash(self):
        keeper = keeper_of(3, 2, TIES)
        with self.assertRaises(Clash) as caught:
            keeper.lay((3, 2, [(3, 0, 1), (5, 0, 1), (7, 1, 2)]))
        self.assertEqual(caught.exception.moment, 5)
        self.assertEqual(keeper.net(), NET)
        keeper.forget(6)
        with self.assertRaises(Clash) as caught:
            keeper.lay((3, 2, [(3, 0, 1), (5, 0, 1), (7, 1, 2)]))
        self.assertEqual(caught.exception.moment, 7)
        keeper.lay((3, 2, [(3, 0, 1), (5, 0, 1)]))
        self.assertEqual(keeper.net(), (3, 2, TIES[2:]))

    def test_nothing_handed_in_is_kept(self):
        keeper = Keeper(3, 2)
        net = copy.deepcopy(NET)
        keeper.lay(net)
        self.assertEqual(net, NET)
        net[2].clear()
        self.assertEqual(keeper.net(), NET)


class TestBack(unittest.TestCase):
    def test_each_kind_of_deed(self):
        keeper = keeper_of(3, 2, TIES)
        keeper.come((6, 1, 2))
        self.assertIsNone(keeper.back())
        self.assertEqual(keeper.net(), NET)
        keeper.lay((3, 2, [(9, 0, 1)]))
        keeper.back()
        self.assertEqual(keeper.net(), NET)
        keeper.forget(6)
        keeper.back()
        self.assertEqual(keeper.net(), NET)
        self.assertEqual(keeper.come((0, 0, 1))[0], (0, 0, 1))

    def test_a_moment_comes_back_too(self):
        keeper = Keeper(2, 1)
        keeper.forget(5)
        keeper.forget(9)
        keeper.forget(7)
        keeper.back()
        self.assertEqual(keeper.come((8, 0, 1)), [])
        keeper.back()
        keeper.back()
        self.assertEqual(keeper.come((4, 0, 1)), [])
        self.assertEqual(keeper.come((8, 0, 1)), [(8, 0, 1)])

    def test_deeds_that_change_nothing_count(self):
        keeper = keeper_of(3, 2, [(5, 0, 1)])
        keeper.come((5, 0, 1))
        keeper.forget(3)
        keeper.forget(2)
        keeper.come((1, 0, 2))
        keeper.lay((3, 2, []))
        keeper.come((4, 2, 2))
        for time in range(6):
            keeper.back()
            self.assertEqual(keeper.net(), (3, 2, [(5, 0, 1)]))
        keeper.back()
        self.assertEqual(keeper.net(), (3, 2, []))
        with self.assertRaises(NoDeed):
            keeper.back()

    def test_none_to_be_taken_back(self):
        keeper = Keeper(3, 2)
        for time in range(2):
            with self.assertRaises(NoDeed):
                keeper.back()
        keeper.come((1, 0, 1))
        keeper.back()
        with self.assertRaises(NoDeed):
            keeper.back()
        keeper.come((2, 0, 1))
        self.assertEqual(keeper.net(), (3, 2, [(2, 0, 1)]))

    def test_taking_back_is_not_taken_back(self):
        keeper = keeper_of(3, 2, [(1, 0, 1), (2, 0, 1), (3, 0, 2)])
        keeper.back()
        keeper.back()
        self.assertEqual(keeper.net(), (3, 2, [(1, 0, 1)]))
        keeper.come((4, 1, 2))
        keeper.back()
        self.assertEqual(keeper.net(), (3, 2, [(1, 0, 1)]))
        keeper.back()
        self.assertEqual(keeper.net(), (3, 2, []))

    def test_what_is_refused_is_no_deed(self):
        keeper = keeper_of(3, 2, [(1, 0, 1)])
        for deed in (
            lambda: keeper.come((1, 0, 2)), lambda: keeper.come(None), lambda: keeper.forget(-1),
            lambda: keeper.forget(MOST + 1), lambda: keeper.lay(None), lambda: keeper.lay((3, 1, [])),
            lambda: keeper.lay((3, 2, [(1, 0, 2)])),
        ):
            with self.assertRaises(PlyError):
                deed()
            self.assertEqual(keeper.net(), (3, 2, [(1, 0, 1)]))
        keeper.back()
        self.assertEqual(keeper.net(), (3, 2, []))
        with self.assertRaises(NoDeed):
            keeper.back()


class TestTheWhole(unittest.TestCase):
    def test_deeds_in_a_row_by_the_words(self):
        for seed in range(12):
            chance = random.Random(seed)
            n, k = (2, 3, 4, 10)[seed % 4], 1 + seed % 6
            record = some_record(5300 + seed, n, 60)
            keeper = Keeper(n, k)
            # What came, be it left out or not, and the moment.
            states = [([], 0)]
            for time in range(40):
                come, moment = states[-1]
                pick = chance.randrange(6)
                if pick == 0 and len(states) > 1:
                    keeper.back()
                    states.pop()
                elif pick == 1:
                    t = chance.randrange(120)
                    keeper.forget(t)
                    states.append((come, max(t, moment)))
                elif pick == 2:
                    some = sorted(chance.sample(record, 20))
                    keeper.lay(net_by_the_words(n, some, k))
                    states.append((come + since_by_the_words(some, moment), moment))
                else:
                    tie = chance.choice(record)
                    keeper.come(tie)
                    states.append((come + since_by_the_words([tie], moment), moment))
                come, moment = states[-1]
                self.assertEqual(keeper.net(), net_by_the_words(n, since_by_the_words(come, moment), k))

    def test_what_is_told_is_the_askers_own(self):
        keeper = keeper_of(3, 2, TIES)
        for time in range(2):
            told = keeper.net()
            self.assertEqual(told, NET)
            told[2].clear()
        told = keeper.come((8, 0, 1))
        told.clear()
        before = keeper.net()
        keeper.come((9, 1, 2))
        keeper.forget(9)
        self.assertEqual(before, net_by_the_words(3, TIES + [(8, 0, 1)], 2))
        keeper.back()
        keeper.back()
        self.assertEqual(keeper.net(), before)
