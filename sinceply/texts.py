"""Records and nets written as texts, and read again from just such texts."""

from sinceply.errors import NoText
from sinceply.nets import is_net, look_at_net
from sinceply.records import is_record

FIGURES = "0123456789"
MOST_FIGURES = 60
WITHOUT_TIES = "none"


def record_text(record):
    if len(record) == 0:
        return WITHOUT_TIES
    return "; ".join([f"{moment}:{a}-{b}" for moment, a, b in record])


def net_text(net):
    look_at_net(net)
    return " ".join([str(net[0]), str(net[1]), record_text(net[2])])


def read_record(n, text):
    record = read_ties(text)
    if not is_record(n, record):
        raise NoText()
    return record


def read_net(text):
    first = text.partition(" ")
    second = first[2].partition(" ")
    net = (read_number(first[0]), read_number(second[0]), read_ties(second[2]))
    if not is_net(net):
        raise NoText()
    return net


def read_ties(text):
    if text == WITHOUT_TIES:
        return []
    return [read_tie(word) for word in text.split("; ")]


def read_tie(word):
    # Where a sign is missing what should stand behind it is empty, and so no number.
    first = word.partition(":")
    ends = first[2].partition("-")
    return (read_number(first[0]), read_number(ends[0]), read_number(ends[2]))


def read_number(word):
    # None where it is no number as it is written here; int itself would take signs, blanks and other figures.
    if not 1 <= len(word) <= MOST_FIGURES or not all([sign in FIGURES for sign in word]):
        return None
    if word[0] == "0" and word != "0":
        return None
    return int(word)
