"""A desk with a keeper: it answers rows of words with texts."""

from sinceply.cuts import least_cut, small_cuts
from sinceply.errors import NoDeed, NoRow
from sinceply.hangs import hang
from sinceply.keeper import Keeper
from sinceply.texts import net_text, read_net, read_number
from sinceply.times import classes, when


def tell_tie(keeper, numbers):
    told = keeper.come((numbers[0], numbers[1], numbers[2]))
    if len(told) == 0:
        return "none"
    return ", ".join([words_text(move) for move in told])


def tell_forget(keeper, numbers):
    keeper.forget(numbers[0])
    return "ok"


def tell_back(keeper, numbers):
    keeper.back()
    return "ok"


def tell_net(keeper, numbers):
    return net_text(keeper.net())


def tell_hang(keeper, numbers):
    return str(hang(keeper.net(), numbers[0], numbers[1], numbers[2])[0])


def tell_cuts(keeper, numbers):
    return str(len(small_cuts(keeper.net(), numbers[0])))


def tell_least(keeper, numbers):
    told = least_cut(keeper.net(), numbers[0])
    if told[0] == "cut":
        return "cut " + words_text(told[1])
    return told[0]


def tell_when(keeper, numbers):
    told = when(keeper.net(), numbers[0], numbers[1], numbers[2])
    return str(told[1]) if told[0] == "since" else told[0]


def tell_classes(keeper, numbers):
    return " | ".join([words_text(places) for places in classes(keeper.net(), numbers[0], numbers[1])])


def words_text(numbers):
    return " ".join([str(number) for number in numbers])


# How many numbers stand behind each word, and who answers. web and lay are the desk's own.
ROWS = {
    "tie": (3, tell_tie),
    "forget": (1, tell_forget),
    "back": (0, tell_back),
    "net": (0, tell_net),
    "hang": (3, tell_hang),
    "cuts": (1, tell_cuts),
    "least": (1, tell_least),
    "when": (3, tell_when),
    "classes": (2, tell_classes),
}


class Desk:
    def __init__(self):
        self.keeper = None

    def say(self, row):
        words = words_of(row)
        if words[0] == "web":
            return self.make(numbers_of(words, 2))
        if words[0] == "lay":
            return self.lay_text(words[1:])
        if words[0] not in ROWS:
            raise NoRow()
        numbers = numbers_of(words, ROWS[words[0]][0])
        self.look_for_keeper()
        return ROWS[words[0]][1](self.keeper, numbers)

    def make(self, numbers):
        self.keeper = Keeper(numbers[0], numbers[1])
        return "ok"

    def lay_text(self, words):
        if len(words) == 0:
            raise NoRow()
        self.look_for_keeper()
        self.keeper.lay(read_net(" ".join(words)))
        return "ok"

    def look_for_keeper(self):
        if self.keeper is None:
            raise NoDeed()


def words_of(row):
    if not isinstance(row, str):
        raise NoRow()
    words = row.split(" ")
    if "" in words:
        raise NoRow()
    return words


def numbers_of(words, count):
    numbers = [read_number(word) for word in words[1:]]
    if len(numbers) != count or None in numbers:
        raise NoRow()
    return numbers
