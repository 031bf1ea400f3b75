"""A judge of papers: what ways, a side, or ways around a tie show of a record."""

from sinceply.errors import NoPaper
from sinceply.kinds import is_pair, is_side, is_whole
from sinceply.records import since
from sinceply.rims import rim, ways_right


def judged(n, record, paper):
    if is_headed(paper, "ways", 5) and is_stretch(n, paper) and ways_hold(record, paper):
        return ("at least", len(paper[4]))
    if is_headed(paper, "side", 5) and is_stretch(n, paper) and side_holds(n, paper):
        return ("at most", len(rim(since(record, paper[3]), paper[4])))
    if is_headed(paper, "out", 3) and out_holds(record, paper[1], paper[2]):
        return ("out", len(paper[2]))
    raise NoPaper()


def is_headed(paper, head, length):
    return isinstance(paper, tuple) and len(paper) == length and paper[0] == head


def is_stretch(n, paper):
    return is_pair(n, paper[1], paper[2]) and is_whole(paper[3]) and paper[3] >= 0


def ways_hold(record, paper):
    return are_ways(paper[4]) and ways_right(since(record, paper[3]), paper[1], paper[2], paper[4])


def side_holds(n, paper):
    return is_side(n, paper[4]) and paper[1] in paper[4] and paper[2] not in paper[4]


def out_holds(record, moment, ways):
    if not is_whole(moment) or not are_ways(ways):
        return False
    younger = since(record, moment + 1)
    for other, a, b in record:
        if other == moment:
            # No way from a place to itself is asked for, so not even none at all is right there.
            return a != b and ways_right(younger, a, b, ways)
    return False


def are_ways(thing):
    # By its kind alone: only whole numbers can be looked up among moments.
    return isinstance(thing, list) and all([is_way(way) for way in thing])


def is_way(thing):
    return isinstance(thing, list) and all([is_whole(moment) for moment in thing])
