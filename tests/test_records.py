import copy
import itertools
import unittest

from sinceply.errors import Clash, NoPlaces, NoTies
from sinceply.records import is_record, record_of, since
from tests.helpers import MOST, no_number_within, odd_things, some_records

SIXTY = [(moment, 0, moment % 3) for moment in range(60)]


class TestRecordOf(unittest.TestCase):
    def test_things_in_whatever_order(self):
        things = [(5, 0, 1), (2, 1, 2), (9, 0, 2), (0, 1, 1)]
        for row in itertools.permutations(things):
            self.assertEqual(record_of(3, list(row)), [(0, 1, 1), (2, 1, 2), (5, 0, 1), (9, 0, 2)])

    def test_places_in_either_order(self):
        self.assertEqual(record_of(4, [(1, 3, 0), (2, 0, 3), (3, 2, 2)]), [(1, 0, 3), (2, 0, 3), (3, 2, 2)])

    def test_the_same_thing_twice_counts_once(self):
        self.assertEqual(record_of(2, [(4, 0, 1), (4, 1, 0), (4, 0, 1)]), [(4, 0, 1)])

    def test_no_things(self):
        for n in range(1, 11):
            self.assertEqual(record_of(n, []), [])

    def test_one_and_ten_places(self):
        self.assertEqual(record_of(1, [(3, 0, 0), (1, 0, 0)]), [(1, 0, 0), (3, 0, 0)])
        self.assertEqual(record_of(10, [(3, 9, 0)]), [(3, 0, 9)])

    def test_least_and_greatest_moment(self):
        self.assertEqual(record_of(2, [(MOST, 1, 0), (0, 0, 1)]), [(0, 0, 1), (MOST, 0, 1)])

    def test_sixty_unlike_ties(self):
        self.assertEqual(record_of(3, SIXTY[::-1]), SIXTY)

    def test_sixty_with_some_told_twice(self):
        turned = [(moment, b, a) for moment, a, b in SIXTY[:30]]
        self.assertEqual(record_of(3, SIXTY + turned + SIXTY[:10]), SIXTY)

    def test_what_is_told_is_the_askers_own(self):
        things = [(1, 0, 1), (2, 0, 1)]
        told = record_of(2, things)
        self.assertIs(type(told), list)
        self.assertIsNot(told, things)
        self.assertTrue(all(type(tie) is tuple for tie in told))
        told.clear()
        self.assertEqual(record_of(2, things), [(1, 0, 1), (2, 0, 1)])

    def test_what_is_handed_in_stays(self):
        for things in ([(5, 1, 0), (2, 1, 1), (5, 0, 1)], [], SIXTY[::-1]):
            before = copy.deepcopy(things)
            record_of(3, things)
            self.assertEqual(things, before)

    def test_a_record_is_its_own_record(self):
        for n, record in some_records():
            self.assertEqual(record_of(n, record), record)


class TestRefusals(unittest.TestCase):
    def test_no_places_of_anything_whatever_else_is_handed_in(self):
        for n in no_number_within(1, 10):
            for things in ([], [(0, 0, 0)], None, [(1, 0, 1), (1, 0, 0)], SIXTY + [(60, 0, 0)]):
                with self.assertRaises(NoPlaces):
                    record_of(n, things)

    def test_no_ties_of_anything_that_is_no_list(self):
        for things in odd_things() + [((1, 0, 1),), "(1, 0, 1)", {(1, 0, 1): True}]:
            if things != []:
                with self.assertRaises(NoTies):
                    record_of(2, things)

    def test_no_ties_of_a_list_with_an_odd_thing(self):
        odd = odd_things() + [
            (1, 0), (1, 0, 1, 1), [1, 0, 1], (True, 0, 1), (1, False, 1), (1, 0, True), ("1", 0, 1), (1, "0", 1),
            (1, 0, None), (-1, 0, 1), (MOST + 1, 0, 1), (1, -1, 0), (1, 0, 2), (1, 2, 0), (1, [0], 1), 7,
        ]
        for thing in odd:
            for things in ([thing], [(5, 0, 1), thing], [thing, (5, 0, 1), (5, 1, 1)]):
                with self.assertRaises(NoTies):
                    record_of(2, things)

    def test_no_ties_of_a_place_that_is_not_there(self):
        for n in range(1, 11):
            with self.assertRaises(NoTies):
                record_of(n, [(0, 0, n)])

    def test_no_ties_of_more_than_sixty_unlike_ones(self):
        with self.assertRaises(NoTies):
            record_of(3, SIXTY + [(60, 0, 0)])

    def test_no_ties_of_too_many_goes_ahead_of_clash(self):
        with self.assertRaises(NoTies):
            record_of(3, SIXTY + [(0, 1, 2)])

    def test_clash_with_the_least_moment(self):
        things = [(9, 0, 1), (9, 0, 2), (4, 0, 1), (4, 1, 1), (2, 0, 1), (2, 1, 0), (7, 0, 0), (7, 1, 2)]
        for row in itertools.permutations(things, 8):
            with self.assertRaises(Clash) as caught:
                record_of(3, list(row))
            self.assertEqual(caught.exception.moment, 4)

    def test_clash_at_the_first_and_the_last_moment(self):
        for moment in (0, MOST):
            with self.assertRaises(Clash) as caught:
                record_of(2, [(moment, 0, 1), (5, 0, 1), (moment, 1, 1)])
            self.assertEqual(caught.exception.moment, moment)

    def test_refused_things_stay(self):
        things = [(5, 1, 0), (2, 1, 1), (5, 1, 1)]
        with self.assertRaises(Clash):
            record_of(2, things)
        self.assertEqual(things, [(5, 1, 0), (2, 1, 1), (5, 1, 1)])


class TestIsRecord(unittest.TestCase):
    def test_records(self):
        for n, record in some_records():
            self.assertIs(is_record(n, record), True)
        self.assertIs(is_record(10, [(0, 0, 9), (MOST, 9, 9)]), True)
        self.assertIs(is_record(3, SIXTY), True)

    def test_anything_else(self):
        for thing in odd_things():
            self.assertIs(is_record(2, thing), thing == [])
            self.assertIs(is_record(2, [thing]), False)
            self.assertIs(is_record(2, [(0, 0, 1), thing]), False)
            self.assertIs(is_record(2, [(thing, 0, 1)]), False)
            self.assertIs(is_record(2, [(1, thing, 1)]), False)
            self.assertIs(is_record(2, [(1, 0, thing)]), False)

    def test_no_number_of_places(self):
        for n in no_number_within(1, 10):
            self.assertIs(is_record(n, []), False)
            self.assertIs(is_record(n, [(0, 0, 0)]), False)

    def test_no_records(self):
        wrong = [
            ((1, 0, 1),), [[1, 0, 1]], [(1, 0)], [(1, 0, 1, 1)], [(2, 0, 1), (1, 0, 1)], [(1, 0, 1), (1, 0, 1)],
            [(1, 0, 1), (1, 1, 1)], [(1, 1, 0)], [(1, 0, 2)], [(1, -1, 1)], [(-1, 0, 1)], [(MOST + 1, 0, 1)],
        ]
        for thing in wrong:
            self.assertIs(is_record(2, thing), False, thing)

    def test_more_than_sixty_ties(self):
        self.assertIs(is_record(3, SIXTY + [(60, 0, 0)]), False)


class TestSince(unittest.TestCase):
    RECORD = [(0, 0, 1), (3, 1, 1), (4, 0, 2), (MOST, 1, 2)]

    def test_since(self):
        for t, first in ((0, 0), (1, 1), (3, 1), (4, 2), (5, 3), (MOST, 3), (MOST + 1, 4), (MOST * MOST, 4)):
            self.assertEqual(since(self.RECORD, t), self.RECORD[first:])

    def test_t_may_be_told_by_its_name(self):
        self.assertEqual(since(self.RECORD, t=4), self.RECORD[2:])

    def test_without_ties(self):
        for t in (0, 1, MOST + 1):
            self.assertEqual(since([], t), [])

    def test_what_is_told_is_the_askers_own(self):
        record = list(self.RECORD)
        told = since(record, 0)
        told.append((1, 0, 0))
        told.pop(0)
        self.assertEqual(record, self.RECORD)
        self.assertEqual(since(record, 0), self.RECORD)
