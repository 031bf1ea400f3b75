import copy
import unittest

from sinceply.errors import Clash, NoLayers, NoTies
from sinceply.moves import moves
from tests.helpers import MOST, joined, layers_by_the_words, no_number_within, odd_things, some_record

TRIANGLES = [(10, 0, 1), (20, 1, 2), (30, 0, 1), (40, 1, 2)]


def moves_by_the_words(record, k, tie):
    numbers = dict(zip([other[0] for other in record], layers_by_the_words(record, k)))
    told = [(tie[0], 0, 1)]
    comer = tie
    for j in range(1, k + 1):
        layer = [other for other in record if numbers[other[0]] == j] + [comer]
        # The ties of the one ring are those whose ends stay joined without them.
        ring = [one for one in layer if joined([other for other in layer if other != one], one[1], one[2])]
        if not ring:
            break
        comer = min(ring)
        told.append((comer[0], j, (j + 1) % (k + 1)))
    return told


def comers(record, n, count):
    taken = [tie[0] for tie in record]
    for tie in some_record(1000 + n, n, count, 4 * len(record) + 50):
        if tie[0] not in taken:
            yield tie


class TestMoves(unittest.TestCase):
    def test_a_tie_that_closes_no_ring(self):
        for k in range(1, 7):
            self.assertEqual(moves(3, [], k, (0, 0, 1)), [(0, 0, 1)])
            self.assertEqual(moves(4, TRIANGLES, k, (5, 0, 3)), [(5, 0, 1)])

    def test_a_ring_in_one_layer(self):
        self.assertEqual(moves(3, TRIANGLES[2:], 3, (35, 0, 2)), [(35, 0, 1), (30, 1, 2)])

    def test_rings_in_several_layers(self):
        self.assertEqual(moves(3, TRIANGLES, 3, (50, 0, 2)), [(50, 0, 1), (30, 1, 2), (10, 2, 3)])

    def test_rings_in_all_layers(self):
        self.assertEqual(moves(3, TRIANGLES, 2, (50, 0, 2)), [(50, 0, 1), (30, 1, 2), (10, 2, 0)])
        self.assertEqual(moves(3, TRIANGLES[2:], 1, (50, 0, 2)), [(50, 0, 1), (30, 1, 0)])

    def test_a_tie_older_than_all(self):
        self.assertEqual(moves(3, TRIANGLES, 2, (0, 0, 2)), [(0, 0, 1), (0, 1, 2), (0, 2, 0)])
        self.assertEqual(moves(3, TRIANGLES, 3, (0, 0, 2)), [(0, 0, 1), (0, 1, 2), (0, 2, 3)])

    def test_a_tie_younger_than_all(self):
        self.assertEqual(moves(3, TRIANGLES, 2, (MOST, 1, 2)), [(MOST, 0, 1), (40, 1, 2), (20, 2, 0)])

    def test_a_tie_between(self):
        self.assertEqual(moves(3, TRIANGLES, 2, (25, 0, 2)), [(25, 0, 1), (25, 1, 2), (10, 2, 0)])

    def test_a_tie_from_a_place_to_itself(self):
        self.assertEqual(moves(1, [], 1, (4, 0, 0)), [(4, 0, 1), (4, 1, 0)])
        for record in ([], TRIANGLES):
            self.assertEqual(moves(3, record, 3, (4, 2, 2)), [(4, 0, 1), (4, 1, 2), (4, 2, 3), (4, 3, 0)])

    def test_by_the_words(self):
        for seed, (n, count) in enumerate([(1, 3), (2, 10), (3, 8), (4, 20), (6, 30), (10, 59)]):
            record = some_record(seed, n, count)
            for k in (1, 2, 4, 6):
                for tie in comers(record, n, 40):
                    self.assertEqual(moves(n, record, k, tie), moves_by_the_words(record, k, tie))

    def test_layers_with_the_moves_done(self):
        for seed, (n, count) in enumerate([(2, 5), (3, 12), (5, 30), (10, 59)]):
            record = some_record(50 + seed, n, count)
            for k in (1, 3, 6):
                for tie in comers(record, n, 30):
                    numbers = dict(zip([other[0] for other in record], layers_by_the_words(record, k)))
                    for moment, left, come in moves(n, record, k, tie):
                        self.assertEqual(numbers.get(moment, 0), left)
                        numbers[moment] = come
                    more = sorted(record + [tie])
                    self.assertEqual([numbers[other[0]] for other in more], layers_by_the_words(more, k))

    def test_what_is_told_is_the_askers_own(self):
        record = copy.deepcopy(TRIANGLES)
        told = moves(3, record, 2, (50, 0, 2))
        self.assertIs(type(told), list)
        self.assertTrue(all(type(move) is tuple for move in told))
        before = list(told)
        told.clear()
        self.assertEqual(record, TRIANGLES)
        self.assertEqual(moves(3, record, 2, (50, 0, 2)), before)


class TestRefusals(unittest.TestCase):
    def test_no_layers_ahead_of_all_else(self):
        for k in no_number_within(1, 6):
            for tie in ((0, 0, 1), None, (10, 0, 1), (10, 0, 2)):
                with self.assertRaises(NoLayers):
                    moves(3, TRIANGLES, k, tie)

    def test_no_ties_of_anything_that_is_no_tie(self):
        odd = odd_things() + [
            (1, 0), (1, 0, 1, 2), [1, 0, 1], (1, 1, 0), (10, 1, 0), (True, 0, 1), (1, False, 1), (1, 0, True),
            (-1, 0, 1), (MOST + 1, 0, 1), (1, -1, 0), (1, 0, 3), (10, 0, 3), ("1", 0, 1), (1, None, 1), 10,
        ]
        for tie in odd:
            for record in ([], TRIANGLES):
                with self.assertRaises(NoTies):
                    moves(3, record, 2, tie)

    def test_clash_of_a_moment_that_the_record_has(self):
        for moment, a, b in TRIANGLES:
            for tie in ((moment, a, b), (moment, 0, 2), (moment, 2, 2)):
                with self.assertRaises(Clash) as caught:
                    moves(3, TRIANGLES, 2, tie)
                self.assertEqual(caught.exception.moment, moment)
