"""What the document promises over the whole program: nets told in pieces and judged for the whole record."""

import itertools
import random
import unittest

from sinceply.cuts import least_cut, small_cuts
from sinceply.desk import Desk
from sinceply.hangs import hang, hang_of
from sinceply.judge import judged
from sinceply.keeper import Keeper
from sinceply.laying import laid, net_melted
from sinceply.layers import layered
from sinceply.nets import net_fewer, net_of, net_since
from sinceply.records import record_of, since
from sinceply.strands import strands
from sinceply.texts import net_text, read_net, read_record, record_text
from sinceply.times import when
from tests.helpers import all_sides, net_by_the_words, rim_by_the_words, some_record, some_records

SHAPES = [(1, 2, 20), (2, 3, 40), (3, 1, 30), (4, 2, 60), (6, 3, 60), (10, 2, 60), (10, 6, 60)]


def shuffled(seed, things):
    row = list(things)
    random.Random(seed).shuffle(row)
    return row


def pieces(seed, ties):
    row = shuffled(seed, ties)
    # Some ties stand in two pieces.
    return [row[at:at + 13] for at in range(0, len(row), 9)]


class TestWhole(unittest.TestCase):
    def test_at_least_k_or_all_since_each_moment_on_every_side(self):
        for n, k, count in SHAPES[:5]:
            record = some_record(7000 + n, n, count)
            net = net_of(n, record, k)
            for t in [0] + [tie[0] + 1 for tie in record[::7]] + [record[-1][0]]:
                for side in all_sides(n):
                    kept = rim_by_the_words(since(net[2], t), side)
                    if len(kept) < k:
                        self.assertEqual(kept, rim_by_the_words(since(record, t), side))

    def test_ties_in_whatever_order(self):
        for seed, (n, k, count) in enumerate(SHAPES):
            record = some_record(7100 + seed, n, count)
            wanted = net_by_the_words(n, record, k)
            for turn in range(3):
                keeper = Keeper(n, k)
                for tie in shuffled(turn, record + record[::5]):
                    keeper.come(tie)
                self.assertEqual(keeper.net(), wanted)

    def test_in_pieces_laid_together(self):
        for seed, (n, k, count) in enumerate(SHAPES):
            record = some_record(7200 + seed, n, count)
            wanted = net_by_the_words(n, record, k)
            keepers = []
            for piece in pieces(seed, record):
                keeper = Keeper(n, k)
                for tie in piece:
                    keeper.come(tie)
                keepers.append(keeper)
            whole = Keeper(n, k)
            for keeper in shuffled(seed, keepers + keepers[:2]):
                whole.lay(keeper.net())
            self.assertEqual(whole.net(), wanted)
            # From the other end on, bracketed otherwise.
            net = (n, k, [])
            for keeper in keepers[::-1]:
                net = laid(keeper.net(), net)
            self.assertEqual(net, wanted)

    def test_forgotten_ahead_between_or_behind(self):
        for seed, (n, k, count) in enumerate(SHAPES):
            record = some_record(7300 + seed, n, count)
            t = record[count // 3][0]
            wanted = net_by_the_words(n, [tie for tie in record if tie[0] >= t], k)
            for turn in range(4):
                keeper = Keeper(n, k)
                row = shuffled(turn, record)
                spot = (0, count // 2, count, count // 4)[turn]
                for tie in row[:spot]:
                    keeper.come(tie)
                keeper.forget(t // 2)
                keeper.forget(t)
                keeper.forget(0)
                for tie in row[spot:]:
                    keeper.come(tie)
                self.assertEqual(keeper.net(), wanted)

    def test_desks_that_lay_each_others_texts(self):
        for seed, (n, k, count) in enumerate(SHAPES):
            record = some_record(7400 + seed, n, count)
            t = record[count // 4][0]
            whole = Desk()
            whole.say(f"web {n} {k}")
            for at, piece in enumerate(pieces(seed, record)):
                desk = Desk()
                desk.say(f"web {n} {k}")
                for moment, a, b in piece:
                    desk.say(f"tie {moment} {a} {b}")
                whole.say("lay " + desk.say("net"))
                if at == 1:
                    whole.say(f"forget {t}")
            wanted = net_by_the_words(n, [tie for tie in record if tie[0] >= t], k)
            self.assertEqual(whole.say("net"), net_text(wanted))
            self.assertEqual(read_net(whole.say("net")), wanted)

    def test_taken_back_down_to_nothing(self):
        for seed, (n, k, count) in enumerate(SHAPES[:5]):
            record = some_record(7500 + seed, n, count)
            keeper = Keeper(n, k)
            nets = [keeper.net()]
            for at, tie in enumerate(shuffled(seed, record)):
                if at % 5 == 4:
                    keeper.forget(tie[0] // 3)
                else:
                    keeper.come(tie)
                nets.append(keeper.net())
            for net in nets[:-1][::-1]:
                keeper.back()
                self.assertEqual(keeper.net(), net)

    def test_since_fewer_and_melted(self):
        for n, record in some_records():
            net = net_of(n, record, 4)
            self.assertEqual(net_since(net_fewer(net, 2), 9), net_of(n, since(record, 9), 2))
            if n > 1:
                melted = [(moment, 0 if a == n - 1 else a, 0 if b == n - 1 else b) for moment, a, b in record]
                self.assertEqual(net_melted(net_fewer(net, 3), 0, n - 1), net_of(n, record_of(n, melted), 3))

    def test_what_hang_tells_of_the_net_is_judged_so_for_the_whole_record(self):
        for n, record in some_records():
            for k in (1, 3, 6):
                net = net_of(n, record, k)
                for a, b in list(itertools.permutations(range(n), 2))[:8]:
                    for t in (0, 11, 60):
                        count, ways, side = hang(net, a, b, t)
                        self.assertEqual(count, hang_of(n, record, a, b, k, t)[0])
                        self.assertEqual(judged(n, record, ("ways", a, b, t, ways)), ("at least", count))
                        if side is not None:
                            self.assertEqual(judged(n, record, ("side", a, b, t, side)), ("at most", count))

    def test_what_when_tells_of_the_net_is_judged_so_for_the_whole_record(self):
        for n, record in some_records():
            net = net_of(n, record, 3)
            for a, b in list(itertools.permutations(range(n), 2))[:8]:
                for j in (1, 2, 3):
                    told = when(net, a, b, j)
                    t = 0
                    if told[0] == "since":
                        self.assertEqual(judged(n, record, ("ways", a, b, told[1], told[2])), ("at least", j))
                        t = told[1] + 1
                    word, count = judged(n, record, ("side", a, b, t, told[-1]))
                    self.assertEqual(word, "at most")
                    self.assertLess(count, j)

    def test_what_least_cut_tells_of_the_net_is_judged_so_for_the_whole_record(self):
        for n, record in some_records():
            for k in (1, 4):
                net = net_of(n, record, k)
                for t in (0, 11, 60):
                    told = least_cut(net, t)
                    if told[0] == "alone":
                        self.assertEqual(n, 1)
                        continue
                    least = k
                    if told[0] == "cut":
                        word, least = judged(n, record, ("side", told[1][0], 0, t, told[1]))
                        self.assertLess(least, k)
                    for place, ways in enumerate(told[-1], start=1):
                        self.assertEqual(judged(n, record, ("ways", 0, place, t, ways)), ("at least", least))

    def test_small_cuts_of_the_net_are_the_records(self):
        for n, record in some_records():
            net = net_of(n, record, 4)
            for t in (0, 25):
                for side, moments in small_cuts(net, t)[:40]:
                    self.assertEqual(rim_by_the_words(since(record, t), side), moments)

    def test_what_is_left_out_is_out_for_the_whole_record(self):
        for n, record in some_records():
            for at, number in enumerate(layered(n, record, 3)):
                if number == 0 and record[at][1] != record[at][2]:
                    paper = ("out", record[at][0], strands(n, record, 3, at))
                    self.assertEqual(judged(n, record, paper), ("out", 3))

    def test_texts_carry_everything(self):
        for n, record in some_records():
            again = read_record(n, record_text(record))
            self.assertEqual(net_of(n, again, 3), read_net(net_text(net_of(n, record, 3))))
