import copy
import itertools
import unittest

from sinceply.byplaces import place_hang
from sinceply.errors import NoPaper
from sinceply.hangs import hang, hang_of
from sinceply.judge import judged
from sinceply.nets import net_of
from sinceply.pared import pared
from sinceply.strands import strands
from tests.helpers import (
    MOST, all_sides, lead_apart, no_number_within, odd_things, rim_by_the_words, since_by_the_words, some_record,
    some_records,
)

RECORD = [(2, 0, 1), (4, 1, 1), (5, 1, 2), (7, 0, 2), (9, 0, 1), (MOST, 2, 3)]
WAYS = ("ways", 0, 1, 5, [[9], [7, 5]])
SIDE = ("side", 0, 1, 5, (0, 3))
OUT = ("out", 2, [[9], [7, 5]])


class TestJudged(unittest.TestCase):
    def says(self, wanted, paper, record=RECORD, n=4):
        handed = copy.deepcopy((record, paper))
        for time in range(2):
            told = judged(n, handed[0], handed[1])
            self.assertEqual(told, wanted)
            self.assertIs(type(told[1]), int)
        self.assertEqual(handed, (record, paper))

    def refused(self, papers, record=RECORD, n=4):
        for paper in papers:
            with self.assertRaises(NoPaper, msg=paper):
                judged(n, record, paper)

    def replaced(self, paper, at, things):
        return [paper[:at] + (thing,) + paper[at + 1:] for thing in things]

    def test_ways(self):
        self.says(("at least", 2), WAYS)
        self.says(("at least", 3), ("ways", 0, 1, 0, [[2], [9], [7, 5]]))
        self.says(("at least", 2), ("ways", 1, 0, 2, [[5, 7], [2]]))
        self.says(("at least", 1), ("ways", 0, 3, 7, [[7, MOST]]))
        self.says(("at least", 1), ("ways", 3, 2, MOST, [[MOST]]))

    def test_no_ways_at_all(self):
        self.says(("at least", 0), ("ways", 0, 1, 0, []))
        self.says(("at least", 0), ("ways", 0, 1, 10 ** 59, []))
        self.says(("at least", 0), ("ways", 0, 1, 0, []), [], 2)
        self.says(("out", 0), ("out", 2, []))
        self.says(("out", 0), ("out", MOST, []))

    def test_a_way_may_come_to_a_place_twice(self):
        self.says(("at least", 1), ("ways", 0, 3, 0, [[2, 9, 7, MOST]]))

    def test_side(self):
        self.says(("at most", 3), SIDE[:3] + (0, (0,)))
        self.says(("at most", 3), SIDE)
        self.says(("at most", 2), SIDE[:3] + (6, (0,)))
        self.says(("at most", 1), ("side", 3, 0, MOST, (3,)))
        self.says(("at most", 0), ("side", 3, 0, MOST + 1, (3,)))
        self.says(("at most", 0), ("side", 3, 0, 10 ** 59, (1, 3)))
        self.says(("at most", 0), ("side", 0, 1, 0, (0,)), [], 2)
        self.says(("at most", 1), ("side", 0, 3, 0, (0, 1, 2)))

    def test_out(self):
        self.says(("out", 2), OUT)
        self.says(("out", 1), ("out", 2, [[7, 5]]))
        self.says(("out", 1), ("out", 5, [[9, 7]]))
        self.says(("out", 0), ("out", 9, []))

    def test_wrong_places(self):
        for paper in (WAYS, SIDE, ("ways", 0, 1, 0, []), ("side", 0, 1, 0, ())):
            self.refused(self.replaced(paper, 1, [1, 4, -1, 10 ** 40, 10]))
            self.refused(self.replaced(paper, 2, [0, 4, -1, 10 ** 40, 10]))
        self.refused([("ways", 0, 0, 0, []), ("ways", 0, 0, 0, [[]]), ("side", 0, 0, 0, (0,)), ("ways", 4, 5, 0, [])])
        self.refused([("ways", 0, 1, 0, []), ("side", 0, 1, 0, (0,))], [], 1)

    def test_a_moment_below_0(self):
        for t in (-1, -(10 ** 40)):
            self.refused([("ways", 0, 1, t, []), WAYS[:3] + (t,) + WAYS[4:], SIDE[:3] + (t,) + SIDE[4:]])

    def test_wrong_ways(self):
        self.refused(self.replaced(WAYS, 4, [
            [[]], [[9], []], [[9], [7]], [[9], [5]], [[9], [5, 7]], [[9], [9]], [[9], [7, 5], [9]], [[9], [7, 5, 9]],
            [[2]], [[9], [7, 5], [2]], [[8]], [[-9]], [[10 ** 40]], [[9], [7, MOST]], [[9, 9, 9]], [[7, 7, 9]],
            [[7, 5, 4]], [[4]], [[9, 4]], [[7, MOST, MOST, 5]], [[MOST]],
        ]))
        self.refused([("ways", 1, 0, 5, [[7, 5]]), ("ways", 0, 1, 10, [[9]]), ("ways", 0, 1, 6, [[7, 5]])])

    def test_wrong_sides(self):
        self.refused(self.replaced(SIDE, 4, [
            (), (3,), (1,), (0, 1), (0, 1, 2, 3), (1, 2, 3), (3, 0), (0, 0), (0, 3, 3), (0, 4), (-1, 0), (0, 10 ** 40),
        ]))

    def test_wrong_outs(self):
        self.refused(self.replaced(OUT, 1, [0, 1, 3, 8, MOST + 1, MOST - 1, -2, 10 ** 59, 4]))
        self.refused([("out", 4, []), ("out", 4, [[]]), ("out", 4, [[], []]), ("out", 3, []), ("out", 0, [])])
        self.refused([("out", 2, [])], [])
        self.refused(self.replaced(OUT, 2, [
            [[2]], [[9], [2]], [[]], [[9], []], [[9], [9]], [[9], [7, 5], [9]], [[7]], [[5, 7]], [[4, 9]],
            [[9], [-7, 5]], [[3]], [[10 ** 40]], [[7, 5, 9]],
        ]))
        self.refused([("out", 9, [[2]]), ("out", 9, [[9]]), ("out", 9, [[7, 5]]), ("out", 5, [[7, 2]])])
        # Its ends are led to the other way round.
        self.refused([("out", 5, [[7, 9]])])

    def test_other_texts_and_lengths(self):
        for paper in (WAYS, SIDE, OUT):
            self.refused(self.replaced(paper, 0, [
                "", "way", "Ways", "WAYS", "ways ", " side", "sides", "outs", "at least", "at most", "alone",
            ]))
            self.refused([paper[:length] for length in range(len(paper))])
            self.refused([paper + (0,), paper + ([],), paper + ((),), paper + paper[1:]])
        self.refused([("side",) + WAYS[1:], ("ways",) + SIDE[1:], ("out",) + WAYS[1:], ("out",) + SIDE[1:]])
        self.refused([("ways",) + OUT[1:], ("side",) + OUT[1:], ("ways",), ("side",), ("out",), ("",), ()])

    def test_things_of_other_kinds_in_their_places(self):
        others = [0, 1, 5, [], [[]], [[9]], [[9], [7, 5]], (), (0,), (0, 3), ((0,),), [(9,)], [9], [[[9]]], ([9],)]
        for at in (1, 2, 3):
            for paper in (WAYS, SIDE):
                self.refused(self.replaced(paper, at, [thing for thing in others if not isinstance(thing, int)]))
        self.refused(self.replaced(OUT, 1, [thing for thing in others if not isinstance(thing, int)]))
        self.refused(self.replaced(WAYS, 4, [[[]], [(9,)], [9], [[[9]]], ([9],), (0,), (), 9, ((9,),), [[9], (7, 5)]]))
        self.refused(self.replaced(OUT, 2, [[[]], [(9,)], [9], [[[9]]], ([9],), (0,), (), 9, ((9,),), [[9], (7, 5)]]))
        self.refused(self.replaced(SIDE, 4, [[0, 3], [0], [[0]], 0, [(0,)], ((0,),), ([0],), [], (0, (3,))]))

    def test_anything_in_their_places(self):
        for at in (1, 2, 3):
            low, high = ((0, 3), (0, 3), (0, 10 ** 80))[at - 1]
            for paper in (WAYS, SIDE):
                self.refused(self.replaced(paper, at, no_number_within(low, high) if at < 3 else [
                    odd for odd in odd_things() if type(odd) is not int
                ]))
        self.refused(self.replaced(OUT, 1, odd_things()))
        self.refused(self.replaced(SIDE, 4, odd_things()))
        for paper, at in ((WAYS, 4), (OUT, 2)):
            odds = odd_things()
            self.refused(self.replaced(paper, at, [odd for odd in odds if odd != []] + [[[odd]] for odd in odds]))
            self.refused(self.replaced(paper, at, [[[7, odd]] for odd in odds] + [[[9], odd] for odd in odds]))
        for paper in (WAYS, SIDE, OUT):
            self.refused(self.replaced(paper, 0, odd_things()))
            self.refused([list(paper)])
        self.refused(odd_things())

    def test_truths_are_no_whole_numbers(self):
        record = [(0, 0, 1), (1, 0, 1)]
        self.says(("out", 1), ("out", 0, [[1]]), record, 2)
        self.says(("at least", 1), ("ways", 0, 1, 0, [[1]]), record, 2)
        self.says(("at most", 2), ("side", 0, 1, 0, (0,)), record, 2)
        self.refused([
            ("out", False, [[1]]), ("out", 0, [[True]]), ("ways", False, 1, 0, [[1]]), ("ways", 0, True, 0, [[1]]),
            ("ways", 0, 1, False, [[1]]), ("ways", 0, 1, 0, [[True]]), ("side", False, 1, 0, (0,)),
            ("side", 0, True, 0, (0,)), ("side", 0, 1, False, (0,)), ("side", 0, 1, 0, (False,)),
        ], record, 2)
        self.says(("at least", 1), ("ways", 0, 2, 0, [[0, 1]]), [(0, 0, 1), (1, 1, 2)], 3)
        self.refused([("ways", 0, 2, 0, [[0, True]]), ("ways", 0, 2, 0, [[False, 1]])], [(0, 0, 1), (1, 1, 2)], 3)

    def test_by_the_words(self):
        for seed in range(6):
            record = some_record(4000 + seed, 3, 6, 9)
            moments = [tie[0] for tie in record]
            some = [list(way) for size in range(4) for way in itertools.permutations(moments, size)]
            for way in some:
                for a, b, t in ((0, 1, 0), (1, 0, 3), (2, 0, 5)):
                    good = lead_apart(since_by_the_words(record, t), a, b, [way])
                    paper = ("ways", a, b, t, [way])
                    self.says(("at least", 1), paper, record, 3) if good else self.refused([paper], record, 3)
                for moment, a, b in record:
                    good = a != b and lead_apart(since_by_the_words(record, moment + 1), a, b, [way])
                    paper = ("out", moment, [way])
                    self.says(("out", 1), paper, record, 3) if good else self.refused([paper], record, 3)

    def test_sides_by_the_words(self):
        for n, record in some_records():
            if n < 2 or n > 5:
                continue
            for a, b in itertools.permutations(range(n), 2):
                for t in (0, 7, 30):
                    for side in all_sides(n):
                        paper = ("side", a, b, t, side)
                        if a in side and b not in side:
                            count = len(rim_by_the_words(since_by_the_words(record, t), side))
                            self.says(("at most", count), paper, record, n)
                        else:
                            self.refused([paper], record, n)

    def test_what_the_program_tells_is_judged_right(self):
        for n, record in some_records():
            for a, b in list(itertools.combinations(range(n), 2))[:6]:
                for t in (0, 5, 40):
                    count, ways, side = hang_of(n, record, a, b, 60, t)
                    self.says(("at least", count), ("ways", a, b, t, ways), record, n)
                    if side is not None:
                        self.says(("at most", count), ("side", a, b, t, side), record, n)
                    told = hang(net_of(n, record, 3), a, b, t)
                    self.says(("at least", min(3, count)), ("ways", a, b, t, told[1]), record, n)
                told = place_hang(n, record, a, b, 60)
                self.says(("at least", told[0]), ("ways", a, b, 0, told[1]), record, n)

    def test_ways_that_keep_a_tie_out(self):
        for n, record in some_records():
            for at, tie in enumerate(record):
                if tie[1] != tie[2]:
                    ways = strands(n, record, 3, at)
                    self.says(("out", len(ways)), ("out", tie[0], ways), record, n)

    def test_ways_of_pared_records(self):
        for n, record in some_records():
            kept, ways, sides = pared(n, record, 2)
            gone = [tie for tie in record if tie[0] not in kept]
            for tie, some in zip(gone, ways):
                if tie[1] != tie[2]:
                    self.says(("at least", 2), ("ways", tie[1], tie[2], 0, some), record, n)
