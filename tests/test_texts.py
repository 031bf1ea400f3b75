import copy
import unittest

from sinceply.errors import NoNet, NoText
from sinceply.nets import is_net, net_of
from sinceply.records import is_record
from sinceply.texts import net_text, read_net, read_number, read_record, record_text
from tests.helpers import MOST, NET, TIES, no_nets, some_records

RECORD = [(3, 0, 1), (10, 1, 1)]
TEXT = "3:0-1; 10:1-1"
SIXTY = [(moment, 0, 1) for moment in range(60)]


def written(ties):
    # By the words of the document, without a look at what the program writes.
    return "; ".join(str(moment) + ":" + str(a) + "-" + str(b) for moment, a, b in ties) or "none"


def spoilt(text):
    # Each text that has one sign more, one less, another one, or two signs next to each other changed over.
    signs = " 0123456789:-;,+_.x\n\t"
    for at in range(len(text) + 1):
        for sign in signs:
            yield text[:at] + sign + text[at:]
            yield text[:at] + sign + text[at + 1:]
        yield text[:at] + text[at + 1:]
        yield text[:at] + text[at:at + 2][::-1] + text[at + 2:]


class TestRecordText(unittest.TestCase):
    def test_examples(self):
        self.assertEqual(record_text(RECORD), TEXT)
        self.assertEqual(record_text([]), "none")
        self.assertEqual(record_text([(0, 0, 9), (MOST, 9, 9)]), "0:0-9; 1" + "0" * 30 + ":9-9")

    def test_what_is_written_is_read_again_as_the_same(self):
        for n, record in some_records():
            own = copy.deepcopy(record)
            text = record_text(own)
            self.assertEqual(own, record)
            self.assertIs(type(text), str)
            self.assertEqual(text, written(record))
            self.assertEqual(read_record(n, text), record)
            self.assertEqual(record_text(own), text)

    def test_sixty_ties(self):
        self.assertEqual(read_record(2, record_text(SIXTY)), SIXTY)

    def test_the_read_record_is_the_askers_own(self):
        told = read_record(2, TEXT)
        told.clear()
        self.assertEqual(read_record(2, TEXT), RECORD)


class TestReadRecord(unittest.TestCase):
    def refused(self, n, texts):
        for text in texts:
            with self.assertRaises(NoText, msg=text):
                read_record(n, text)

    def test_examples(self):
        self.assertEqual(read_record(2, TEXT), RECORD)
        self.assertEqual(read_record(1, "none"), [])
        self.assertEqual(read_record(1, "0:0-0"), [(0, 0, 0)])
        self.assertEqual(read_record(10, written([(MOST, 0, 9)])), [(MOST, 0, 9)])

    def test_other_forms(self):
        self.refused(3, [
            "", " ", "; ", ";", ":", "-", ":-", "3", "3:", "3:0", "3:0-", ":0-1", "3:-1", "3-0:1", "3:0:1", "3-0-1",
            "3 0 1", "(3, 0, 1)", "[]", "[(3, 0, 1)]", "3:0-1-2", "3:0:1-2", "3:0-1:2", "3,0,1", "a:0-1", "3:a-1",
            "3:0-b", "3.0:0-1", "3:0-1.0", "0x3:0-1", "1_0:0-1", "3e0:0-1", "3:0--1", "--3:0-1", "3:0-1\n", "\n3:0-1",
        ])

    def test_blanks(self):
        self.refused(3, [
            " 3:0-1", "3:0-1 ", " 3:0-1; 10:1-1", "3:0-1; 10:1-1 ", "3:0-1;10:1-1", "3:0-1;  10:1-1",
            "3:0-1 ; 10:1-1", "3: 0-1", "3 :0-1", "3:0 -1", "3:0- 1", "3:0-1 10:1-1", "3:0-1;\n10:1-1",
            "3:0-1;\t10:1-1", "3:0-1, 10:1-1", "3:0-110:1-1",
        ])

    def test_signs_that_part_nothing(self):
        self.refused(3, ["3:0-1; ", "; 3:0-1", "3:0-1;", ";3:0-1", "3:0-1; ; 10:1-1", "3:0-1;; 10:1-1"])

    def test_figures(self):
        self.refused(3, [
            "03:0-1", "00:0-1", "3:00-1", "3:0-01", "+3:0-1", "-3:0-1", "3:+0-1", "3:0-+1", "3:-0-1", "3:0--1",
            "0" * 61 + ":0-1", "0" * 60 + ":0-1", "3:0-" + "0" * 60 + "1", "9" * 31 + ":0-1", "9" * 60 + ":0-1",
            "9" * 61 + ":0-1", "1" + "0" * 5000 + ":0-1", "3:0-" + "9" * 5000,
        ])

    def test_other_figures(self):
        self.refused(3, ["\u0663:0-1", "\u00b2:0-1", "3:0-\u0661", "\uff13:0-1"])

    def test_none_with_more(self):
        self.refused(3, [
            "none ", " none", "none; ", "none; 3:0-1", "3:0-1; none", "nonenone", "none none", "None", "NONE", "non",
            "none;", "none\n",
        ])

    def test_ties_that_are_no_record(self):
        self.refused(3, [
            "10:1-1; 3:0-1", "3:0-1; 3:0-1", "3:0-1; 3:0-2", "3:1-0", "3:2-1", "3:0-3", "3:3-3", "3:0-10",
            written([(MOST + 1, 0, 1)]), written(SIXTY + [(60, 0, 1)]), written([(5, 0, 1), (4, 0, 1), (6, 0, 1)]),
        ])
        self.refused(1, ["3:0-1"])
        self.refused(10, ["3:0-10", "3:9-10"])

    def test_just_what_is_written_so(self):
        for n, record in ((2, RECORD), (3, []), (3, TIES[:2]), (1, [(0, 0, 0)])):
            for text in spoilt(written(record)):
                try:
                    told = read_record(n, text)
                except NoText:
                    continue
                self.assertTrue(is_record(n, told), text)
                self.assertEqual(written(told), text)


class TestNetText(unittest.TestCase):
    def test_examples(self):
        self.assertEqual(net_text((3, 2, [(2, 0, 1), (5, 1, 2)])), "3 2 2:0-1; 5:1-2")
        self.assertEqual(net_text((10, 6, [])), "10 6 none")
        self.assertEqual(net_text(NET), "3 2 " + written(TIES))

    def test_what_is_written_is_read_again_as_the_same(self):
        for n, record in some_records():
            for k in (1, 2, 6):
                net = net_of(n, record, k)
                own = copy.deepcopy(net)
                text = net_text(own)
                self.assertEqual(own, net)
                self.assertEqual(text, str(n) + " " + str(k) + " " + written(net[2]))
                self.assertEqual(read_net(text), net)

    def test_no_net(self):
        for thing in no_nets():
            with self.assertRaises(NoNet):
                net_text(thing)


class TestReadNet(unittest.TestCase):
    def refused(self, texts):
        for text in texts:
            with self.assertRaises(NoText, msg=text):
                read_net(text)

    def test_examples(self):
        self.assertEqual(read_net("3 2 2:0-1; 5:1-2"), (3, 2, [(2, 0, 1), (5, 1, 2)]))
        self.assertEqual(read_net("1 1 none"), (1, 1, []))
        self.assertEqual(read_net("10 6 none"), (10, 6, []))

    def test_other_forms(self):
        self.refused([
            "", " ", "  ", "none", "3", "3 ", "3 2", "3 2 ", "3 none", "3 2 2", "3 2 2:0-1;", "3 2 none none",
            "3 2 none ", " 3 2 none", "3  2 none", "3 2  none", "3 2 none; 2:0-1", "3 2 ; 2:0-1", "3 2 2:0-1; ",
            "3 2 1 none", "3, 2, none", "(3, 2, [])", "3;2;none", "3\t2\tnone", "3\n2\nnone", "3 2 none\n",
            "3 2 2:0-1;5:1-2", "3 2 2:0-1;  5:1-2", "3 2  2:0-1", "x 2 none", "3 x none",
        ])

    def test_figures(self):
        self.refused([
            "03 2 none", "3 02 none", "+3 2 none", "3 +2 none", "-3 2 none", "3 -2 none", "3.0 2 none", "00 2 none",
            "9" * 61 + " 2 none", "3 " + "9" * 61 + " none", "3 2 02:0-1", "9" * 5000 + " 2 none",
            "0" * 60 + "3 2 none",
        ])

    def test_no_number_of_places_or_layers(self):
        self.refused(["0 2 none", "11 2 none", "3 0 none", "3 7 none", "10000 2 none", "3 66 none"])

    def test_ties_that_are_no_net(self):
        self.refused([
            "3 2 5:1-2; 2:0-1", "3 2 2:0-1; 2:0-1", "3 2 2:0-1; 2:0-2", "3 2 2:1-0", "3 2 2:0-3",
            "3 6 " + written([(MOST + 1, 0, 1)]), "3 1 " + written(TIES), "3 2 2:1-1", "1 1 0:0-0", "2 1 1:0-1; 2:0-1",
            "2 2 1:0-1; 2:0-1; 3:0-1", "3 1 1:0-1; 2:1-2; 3:0-2", "2 6 " + written(SIXTY), "10 6 " + written(SIXTY),
        ])

    def test_just_what_is_written_so(self):
        for net in ((3, 2, TIES[:2]), (1, 1, []), (10, 6, [(10, 0, 9)])):
            for text in spoilt(str(net[0]) + " " + str(net[1]) + " " + written(net[2])):
                try:
                    told = read_net(text)
                except NoText:
                    continue
                self.assertTrue(is_net(told), text)
                self.assertEqual(str(told[0]) + " " + str(told[1]) + " " + written(told[2]), text)

    def test_the_read_net_is_the_askers_own(self):
        told = read_net("3 2 2:0-1; 5:1-2")
        told[2].clear()
        self.assertEqual(read_net("3 2 2:0-1; 5:1-2"), (3, 2, [(2, 0, 1), (5, 1, 2)]))


class TestReadNumber(unittest.TestCase):
    def test_numbers(self):
        for number in (0, 1, 9, 10, 305, 10 ** 59, 10 ** 60 - 1):
            self.assertEqual(read_number(str(number)), number)

    def test_none_of_them(self):
        for word in ("", "00", "01", "-1", "+1", " 1", "1 ", "1.0", "1_0", "a", str(10 ** 60), "\u0663", "1\n"):
            self.assertIsNone(read_number(word))
