import unittest

from sinceply.cuts import least_cut, small_cuts
from sinceply.desk import Desk
from sinceply.errors import Clash, NoDeed, NoLayers, NoPair, NoPlaces, NoRow, NoText, NoTies, PlyError, Unlike
from sinceply.hangs import hang
from sinceply.keeper import Keeper
from sinceply.texts import net_text
from sinceply.times import classes, when
from tests.helpers import MOST, net_by_the_words, odd_things, some_record

# For each word a row of it that is right, for a web of three places with two layers.
RIGHT = [
    "web 3 2", "tie 9 0 1", "forget 3", "back", "net", "hang 0 1 0", "cuts 0", "least 0", "when 0 1 1", "classes 1 0",
    "lay 3 2 none",
]
NO_NUMBERS = [
    "", "x", "-1", "+1", "01", "00", "1.0", "1_0", "0x1", "one", "1,", "None", "True", "\u0663", "9" * 61,
    "1" + "0" * 60, "0" * 60, "9" * 5000, "1\n", "(1)", "1-1", "1:0-1",
]


def desk_of(n, k, ties=()):
    desk = Desk()
    desk.say(f"web {n} {k}")
    for moment, a, b in ties:
        desk.say(f"tie {moment} {a} {b}")
    return desk


class DeskTest(unittest.TestCase):
    def answers(self, desk, rows):
        for row, answer in rows:
            told = desk.say(row)
            self.assertIs(type(told), str)
            self.assertEqual((row, told), (row, answer))

    def refused(self, desk, error, rows):
        for row in rows:
            with self.assertRaises(error, msg=row):
                desk.say(row)


class TestRows(DeskTest):
    def test_a_talk(self):
        self.answers(Desk(), [
            ("web 3 2", "ok"), ("net", "3 2 none"), ("tie 4 1 2", "4 0 1"), ("tie 6 0 2", "6 0 1"),
            ("tie 2 0 1", "2 0 1, 2 1 2"), ("tie 2 0 1", "none"), ("tie 7 1 2", "7 0 1, 4 1 2"),
            ("net", "3 2 2:0-1; 4:1-2; 6:0-2; 7:1-2"), ("hang 0 1 0", "2"), ("hang 0 1 4", "1"), ("hang 0 1 7", "0"),
            ("cuts 0", "0"), ("cuts 4", "1"), ("least 0", "thick"), ("least 4", "cut 1 2"), ("when 0 1 2", "2"),
            ("when 0 1 1", "6"), ("classes 2 0", "0 1 2"), ("classes 2 4", "0 | 1 2"), ("classes 1 7", "0 | 1 2"),
            ("forget 4", "ok"), ("net", "3 2 4:1-2; 6:0-2; 7:1-2"), ("when 0 1 2", "never"), ("tie 3 0 1", "none"),
            ("back", "ok"), ("back", "ok"), ("net", "3 2 2:0-1; 4:1-2; 6:0-2; 7:1-2"),
            ("lay 3 2 8:0-1; 9:0-1", "ok"), ("net", "3 2 6:0-2; 7:1-2; 8:0-1; 9:0-1"), ("web 1 1", "ok"),
            ("net", "1 1 none"), ("least 0", "alone"), ("cuts 0", "0"), ("classes 1 0", "0"),
        ])

    def test_tie(self):
        desk = desk_of(2, 1)
        self.answers(desk, [
            ("tie 0 0 1", "0 0 1"), (f"tie {MOST} 0 1", f"{MOST} 0 1, 0 1 0"), ("tie 5 1 1", "5 0 1, 5 1 0"),
            ("tie 5 0 1", "5 0 1, 5 1 0"), (f"tie {MOST} 0 1", "none"),
        ])
        self.refused(desk, NoTies, ["tie 5 1 0", "tie 5 0 2", "tie 5 2 2", f"tie {MOST + 1} 0 1"])
        self.refused(desk, NoTies, ["tie " + "9" * 60 + " 0 1"])
        with self.assertRaises(Clash) as caught:
            desk.say(f"tie {MOST} 0 0")
        self.assertEqual(caught.exception.moment, MOST)

    def test_forget(self):
        desk = desk_of(2, 1, [(5, 0, 1)])
        self.answers(desk, [("forget 5", "ok"), ("tie 4 0 1", "none"), ("net", "2 1 5:0-1")])
        self.answers(desk, [(f"forget {MOST}", "ok"), ("net", "2 1 none"), ("forget 0", "ok"), ("tie 7 0 1", "none")])
        self.refused(desk, NoTies, [f"forget {MOST + 1}", "forget " + "9" * 60])

    def test_back(self):
        desk = desk_of(3, 2, [(1, 0, 1)])
        self.answers(desk, [
            ("lay 3 2 2:0-2", "ok"), ("forget 2", "ok"), ("net", "3 2 2:0-2"), ("back", "ok"),
            ("net", "3 2 1:0-1; 2:0-2"), ("back", "ok"), ("net", "3 2 1:0-1"), ("back", "ok"), ("net", "3 2 none"),
        ])
        self.refused(desk, NoDeed, ["back", "back"])
        self.answers(desk, [("tie 1 0 1", "1 0 1"), ("back", "ok")])

    def test_asking_is_no_deed(self):
        desk = desk_of(3, 2, [(1, 0, 1)])
        for row in ("net", "hang 0 1 0", "cuts 0", "least 0", "when 0 1 1", "classes 1 0"):
            desk.say(row)
        self.answers(desk, [("back", "ok"), ("net", "3 2 none")])
        self.refused(desk, NoDeed, ["back"])

    def test_lay(self):
        desk = desk_of(3, 2, [(5, 0, 1)])
        self.answers(desk, [
            ("lay 3 2 none", "ok"), ("net", "3 2 5:0-1"), ("lay 3 2 5:0-1; 7:1-2", "ok"), ("net", "3 2 5:0-1; 7:1-2"),
            ("forget 8", "ok"), ("lay 3 2 7:1-2; 8:1-2", "ok"), ("net", "3 2 8:1-2"),
        ])
        self.refused(desk, NoText, [
            "lay x", "lay none", "lay 3", "lay 3 2", "lay 3 2 9:0-1;", "lay 3 2 9:0-1;10:0-1", "lay 3 2 9:1-0",
            "lay 3 2 9:1-1", "lay 3 1 8:0-1; 9:0-1", "lay 0 2 none", "lay 3 7 none", "lay 03 2 none", "lay lay",
            "lay 3 2 none none", "lay net", "lay 3 2\tnone", "lay 3 2 none\n",
        ])
        self.refused(desk, Unlike, ["lay 3 1 none", "lay 2 2 none", "lay 4 2 8:0-1"])
        with self.assertRaises(Clash) as caught:
            desk.say("lay 3 2 5:1-2; 8:0-1; 9:0-1")
        self.assertEqual(caught.exception.moment, 8)
        self.answers(desk, [("net", "3 2 8:1-2")])

    def test_refusals_of_the_functions(self):
        desk = desk_of(3, 2, [(5, 0, 1), (7, 1, 2)])
        self.refused(desk, NoPair, ["hang 0 0 0", "hang 0 3 0", "hang 3 0 0", "when 1 1 1", "when 0 3 2", "hang 9 9 0"])
        self.refused(desk, NoLayers, ["when 0 1 0", "when 0 1 3", "when 0 0 3", "when 9 9 0"])
        self.refused(desk, NoLayers, ["classes 0 0", "classes 3 0", "web 3 0", "web 3 7", "web 10 99"])
        self.refused(desk, NoPlaces, ["web 0 2", "web 11 2", "web 0 0", "web 99 99"])
        self.answers(desk, [("net", "3 2 5:0-1; 7:1-2")])

    def test_moments_of_many_figures(self):
        desk = desk_of(2, 1, [(MOST, 0, 1)])
        for t in (MOST + 1, 10 ** 60 - 1):
            self.answers(desk, [(f"hang 0 1 {t}", "0"), (f"cuts {t}", "1"), (f"least {t}", "cut 1")])
            self.answers(desk, [(f"classes 1 {t}", "0 | 1")])
        self.answers(desk, [(f"hang 0 1 {MOST}", "1"), ("when 0 1 1", str(MOST))])

    def test_a_new_web(self):
        desk = desk_of(3, 2, [(5, 0, 1)])
        desk.say("forget 5")
        self.answers(desk, [("web 3 2", "ok"), ("net", "3 2 none"), ("tie 1 0 1", "1 0 1")])
        self.answers(desk, [("back", "ok")])
        self.refused(desk, NoDeed, ["back"])

    def test_a_web_that_is_refused_leaves_the_one_that_was(self):
        desk = desk_of(3, 2, [(5, 0, 1)])
        self.refused(desk, PlyError, ["web 0 2", "web 3 0", "web 3", "web 3 2 1", "web 3 02"])
        self.answers(desk, [("net", "3 2 5:0-1"), ("back", "ok"), ("net", "3 2 none")])
        desk = Desk()
        self.refused(desk, PlyError, ["web 0 2", "web 3 0", "web 3"])
        self.refused(desk, NoDeed, ["net"])

    def test_as_the_functions_tell(self):
        for seed, (n, k) in enumerate([(1, 2), (2, 1), (2, 6), (3, 2), (5, 3), (10, 2)]):
            record = some_record(6000 + seed, n, 30)
            desk = desk_of(n, k, record)
            net = net_by_the_words(n, record, k)
            self.answers(desk, [("net", net_text(net))])
            for t in (0, 20, 50, 90):
                self.answers(desk, [(f"cuts {t}", str(len(small_cuts(net, t))))])
                told = least_cut(net, t)
                places = [str(place) for place in told[1]] if told[0] == "cut" else []
                self.answers(desk, [(f"least {t}", " ".join([told[0]] + places))])
                for j in range(1, k + 1):
                    rows = [" ".join(str(place) for place in places) for places in classes(net, j, t)]
                    self.answers(desk, [(f"classes {j} {t}", " | ".join(rows))])
                if n > 1:
                    self.answers(desk, [(f"hang {n - 1} 0 {t}", str(hang(net, n - 1, 0, t)[0]))])
            for j in range(1, k + 1 if n > 1 else 1):
                told = when(net, 0, n - 1, j)
                self.answers(desk, [(f"when 0 {n - 1} {j}", str(told[1]) if told[0] == "since" else "never")])

    def test_moves_as_the_keeper_tells(self):
        for n, k in ((2, 2), (4, 3), (10, 6)):
            keeper, desk = Keeper(n, k), desk_of(n, k)
            for moment, a, b in some_record(6100 + n, n, 100):
                told = keeper.come((moment, a, b))
                wanted = ", ".join(" ".join(str(number) for number in move) for move in told) or "none"
                self.answers(desk, [(f"tie {moment} {a} {b}", wanted)])


class TestNoRow(DeskTest):
    def wrong_rows(self):
        rows = [
            "", " ", "  ", "nets", "Net", "NET", "help", "keep 1", "ok", "none", "0", "3 2 none", "tie: 1 0 1", "\n",
            "lay", "lay ", "lay  3 2 none", "lay 3 2  none", "lay 3  2 none", "lay 3 2 none ", "lay 3 2 8:0-1;  9:0-1",
            "Lay 3 2 none", "lays 3 2 none", "net\n", "net\t", "\tnet", "web\t3\t2", "web 3\t2", "web 3,2", "tie 9 0-1",
        ]
        for row in RIGHT:
            rows += [" " + row, row + " ", row + "  ", row.upper(), "x" + row]
            rows += [row.replace(" ", "  "), row.replace(" ", "  ", 1), row.replace(" ", "")] * (" " in row)
            if not row.startswith("lay"):
                rows += self.spoilt(row)
        return rows

    def spoilt(self, row):
        words = row.split(" ")
        rows = [row + " 1", row + " x", row + " 1 1", row + " none", row + "\n", words[0] + " 1 1 1 1"]
        rows += [" ".join(words[:length]) for length in range(1, len(words))]
        for at in range(1, len(words)):
            for word in NO_NUMBERS:
                rows.append(" ".join(words[:at] + [word] + words[at + 1:]))
        return rows

    def test_rows_that_are_none(self):
        desk = desk_of(3, 2, [(5, 0, 1)])
        self.refused(desk, NoRow, self.wrong_rows())
        self.answers(desk, [("net", "3 2 5:0-1"), ("back", "ok"), ("net", "3 2 none")])

    def test_ahead_of_no_deed(self):
        self.refused(Desk(), NoRow, self.wrong_rows())

    def test_other_things_than_texts(self):
        texts = [odd for odd in odd_things() if type(odd) is str]
        others = [odd for odd in odd_things() if type(odd) is not str]
        others += [["net"], ("net",), b"net", ["web", "3", "2"], {"net": 1}, bytearray(b"web 3 2"), 7]
        for desk in (Desk(), desk_of(3, 2)):
            self.refused(desk, NoRow, texts + others)

    def test_no_keeper_yet(self):
        desk = Desk()
        for time in range(2):
            self.refused(desk, NoDeed, RIGHT[1:])
        self.refused(desk, NoDeed, [
            "tie 9 1 0", "tie 9 9 9", f"forget {MOST + 1}", "hang 0 0 0", "when 9 9 9", "classes 9 0", "lay x",
            "lay 9 9 9",
        ])
        self.answers(desk, [("web 3 2", "ok"), ("net", "3 2 none")])
        self.refused(desk, NoDeed, ["back"])

    def test_right_rows(self):
        for row in RIGHT[1:]:
            self.assertIs(type(desk_of(3, 2, [(5, 0, 1)]).say(row)), str)

    def test_two_desks_have_nothing_in_common(self):
        one, other = Desk(), Desk()
        one.say("web 3 2")
        self.refused(other, NoDeed, ["net"])
        other.say("web 3 2")
        one.say("tie 1 0 1")
        one.say("forget 1")
        self.answers(other, [("net", "3 2 none"), ("tie 0 0 1", "0 0 1"), ("back", "ok")])
        self.refused(other, NoDeed, ["back"])
        self.answers(one, [("net", "3 2 1:0-1")])
