import copy
import unittest

from sinceply.errors import NoLayers
from sinceply.layers import layered, layers_right
from tests.helpers import joined, layers_by_the_words, no_number_within, some_record, some_records

RING = [(1, 0, 1), (2, 1, 2), (3, 2, 3), (4, 0, 3)]


class TestLayered(unittest.TestCase):
    def test_no_ties(self):
        for n in (1, 10):
            for k in range(1, 7):
                self.assertEqual(layered(n, [], k), [])

    def test_ties_from_a_place_to_itself(self):
        for k in range(1, 7):
            self.assertEqual(layered(1, [(0, 0, 0), (1, 0, 0)], k), [0, 0])
            self.assertEqual(layered(2, [(0, 0, 0), (1, 0, 1), (2, 1, 1)], k), [0, 1, 0])

    def test_several_ties_with_the_same_ends(self):
        record = [(moment, 0, 1) for moment in range(8)]
        self.assertEqual(layered(2, record, 1), [0, 0, 0, 0, 0, 0, 0, 1])
        self.assertEqual(layered(2, record, 3), [0, 0, 0, 0, 0, 3, 2, 1])
        self.assertEqual(layered(2, record, 6), [0, 0, 6, 5, 4, 3, 2, 1])

    def test_a_ring(self):
        self.assertEqual(layered(4, RING, 1), [0, 1, 1, 1])
        self.assertEqual(layered(4, RING, 2), [2, 1, 1, 1])
        self.assertEqual(layered(4, RING + [(5, 0, 1)], 2), [2, 2, 1, 1, 1])

    def test_more_ties_than_the_layers_can_hold(self):
        pairs = [(0, 1), (0, 2), (1, 2)] * 7
        record = [(moment, a, b) for moment, (a, b) in enumerate(pairs)]
        self.assertEqual(layered(3, record, 1), [0] * 19 + [1, 1])
        self.assertEqual(layered(3, record, 2), [0] * 17 + [2, 2, 1, 1])

    def test_by_the_words(self):
        for n, record in some_records():
            for k in (1, 2, 3, 6):
                self.assertEqual(layered(n, record, k), layers_by_the_words(record, k), (n, k))

    def test_sixty_ties_ten_places(self):
        for seed in range(5):
            record = some_record(seed, 10, 60)
            for k in range(1, 7):
                self.assertEqual(layered(10, record, k), layers_by_the_words(record, k))

    def test_no_layer_closes_a_ring(self):
        for n, record in some_records():
            numbers = layered(n, record, 6)
            for j in range(1, 7):
                layer = [tie for tie, number in zip(record, numbers) if number == j]
                for tie in layer:
                    self.assertFalse(joined([other for other in layer if other != tie], tie[1], tie[2]))

    def test_what_is_told_is_the_askers_own(self):
        record = copy.deepcopy(RING)
        told = layered(4, record, 2)
        self.assertIs(type(told), list)
        told.clear()
        self.assertEqual(record, RING)
        self.assertEqual(layered(4, record, 2), [2, 1, 1, 1])

    def test_no_layers(self):
        for k in no_number_within(1, 6):
            for record in ([], RING):
                with self.assertRaises(NoLayers):
                    layered(4, record, k)


class TestLayersRight(unittest.TestCase):
    def test_the_right_numbers(self):
        self.assertIs(layers_right(4, [], 1, []), True)
        for n, record in some_records():
            for k in (1, 2, 6):
                numbers = layers_by_the_words(record, k)
                before = list(numbers)
                self.assertIs(layers_right(n, record, k, numbers), True)
                self.assertEqual(numbers, before)

    def test_each_other_number_is_wrong(self):
        for n, record in some_records():
            for k in (1, 3, 6):
                right = layers_by_the_words(record, k)
                for at, number in enumerate(right):
                    for other in [-1, -number - 1, k + 1, 10 ** 40] + list(range(k + 1)):
                        if other != number:
                            wrong = right[:at] + [other] + right[at + 1:]
                            self.assertIs(layers_right(n, record, k, wrong), False)

    def test_numbers_by_which_layers_are_swapped(self):
        self.assertIs(layers_right(2, [(1, 0, 1), (2, 0, 1)], 2, [2, 1]), True)
        self.assertIs(layers_right(2, [(1, 0, 1), (2, 0, 1)], 2, [1, 2]), False)

    def test_longer_and_shorter_lists(self):
        for numbers in ([], [2, 1, 1], [2, 1, 1, 1, 1], [2, 1, 1, 1, 0], [0, 2, 1, 1, 1]):
            self.assertIs(layers_right(4, RING, 2, numbers), False)
        self.assertIs(layers_right(4, [], 2, [0]), False)
        self.assertIs(layers_right(4, [], 2, [1]), False)

    def test_no_layers(self):
        for k in no_number_within(1, 6):
            for record, numbers in (([], []), (RING, [2, 1, 1, 1]), (RING, []), ([], [1])):
                with self.assertRaises(NoLayers):
                    layers_right(4, record, k, numbers)
