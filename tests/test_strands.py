import copy
import unittest

from sinceply.errors import NoLayers
from sinceply.rims import way_right
from sinceply.strands import strands
from tests.helpers import layers_by_the_words, lists_within, no_number_within, some_records

# Layer 1 for k 2: 6, 7, 8; layer 2: 3, 4, 5; left out: 1, 2.
RECORD = [(1, 0, 2), (2, 1, 1), (3, 2, 3), (4, 1, 2), (5, 0, 1), (6, 0, 1), (7, 1, 3), (8, 2, 3)]


class TestStrands(unittest.TestCase):
    def test_of_a_tie_of_layer_one(self):
        for at in (5, 6, 7):
            self.assertEqual(strands(4, RECORD, 2, at), [])

    def test_of_a_tie_of_layer_two(self):
        self.assertEqual(strands(4, RECORD, 2, 4), [[6]])
        self.assertEqual(strands(4, RECORD, 2, 3), [[7, 8]])
        self.assertEqual(strands(4, RECORD, 2, 2), [[8]])

    def test_of_a_tie_left_out(self):
        self.assertEqual(strands(4, RECORD, 2, 0), [[6, 7, 8], [5, 4]])

    def test_of_a_tie_from_a_place_to_itself(self):
        for k in range(1, 7):
            self.assertEqual(strands(4, RECORD, k, 1), [[]] * k)
        self.assertEqual(strands(1, [(0, 0, 0)], 3, 0), [[], [], []])

    def test_older_ties_of_the_layer_are_not_used(self):
        record = [(1, 0, 2), (2, 0, 1), (3, 0, 1), (4, 1, 2)]
        self.assertEqual(strands(3, record, 2, 1), [[3]])
        self.assertEqual(strands(3, record, 1, 0), [[3, 4]])

    def look_at_way(self, record, numbers, at, j, way):
        ties = {tie[0]: tie for tie in record}
        place = record[at][1]
        places = [place]
        for moment in way:
            self.assertGreater(moment, record[at][0])
            self.assertEqual(numbers[record.index(ties[moment])], j)
            place = sum(ties[moment][1:]) - place
            places.append(place)
        self.assertTrue(way_right(record, record[at][1], record[at][2], way))
        self.assertEqual(len(set(places)), len(places))

    def test_by_the_words(self):
        for n, record in some_records():
            for k in (1, 3, 6):
                numbers = layers_by_the_words(record, k)
                for at in range(len(record)):
                    told = strands(n, record, k, at)
                    self.assertEqual(len(told), numbers[at] - 1 if numbers[at] else k)
                    for j, way in enumerate(told, start=1):
                        self.look_at_way(record, numbers, at, j, way)

    def test_what_is_told_is_the_askers_own(self):
        record = copy.deepcopy(RECORD)
        for at in range(len(record)):
            told = strands(4, record, 3, at)
            before = copy.deepcopy(told)
            lists = lists_within(told)
            self.assertEqual(len({id(one) for one in lists}), len(lists))
            for one in lists:
                one.clear()
            self.assertEqual(record, RECORD)
            self.assertEqual(strands(4, record, 3, at), before)

    def test_no_layers(self):
        for k in no_number_within(1, 6):
            for at in (0, 1, 7):
                with self.assertRaises(NoLayers):
                    strands(4, RECORD, k, at)
