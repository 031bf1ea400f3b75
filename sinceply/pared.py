"""Pared records: no tie can be left out, and each one left out has its ways, each kept one its side."""

from sinceply.flows import hang_often, ways_apart
from sinceply.kinds import is_rising, is_side, look_at_layers
from sinceply.rims import rim, ways_right


def pared(n, record, k):
    look_at_layers(k)
    kept = kept_ties(n, record, k)
    ways = [ways_for(n, kept, tie, k) for tie in record if tie not in kept]
    sides = [side_for(n, kept, tie, k) for tie in kept]
    return ([tie[0] for tie in kept], ways, sides)


def kept_ties(n, record, k):
    kept = list(record)
    for tie in record:
        others = without(kept, tie)
        if tie[1] == tie[2] or hang_often(n, others, tie[1], tie[2], k):
            kept = others
    return kept


def without(ties, tie):
    return [other for other in ties if other != tie]


def ways_for(n, kept, tie, k):
    # Looked for among those kept at the end: whichever tie left a rim behind it left k others there.
    if tie[1] == tie[2]:
        return [[] for time in range(k)]
    return ways_apart(n, kept, tie[1], tie[2], k)[0]


def side_for(n, kept, tie, k):
    return ways_apart(n, without(kept, tie), tie[1], tie[2], k)[1]


def pared_right(n, record, k, told):
    look_at_layers(k)
    kept = [tie for tie in record if tie[0] in told[0]]
    # Where a moment of no tie is among those told, they are more than the ties found.
    if not is_rising(told[0]) or len(kept) != len(told[0]):
        return False
    gone = [tie for tie in record if tie not in kept]
    if len(told[1]) != len(gone) or len(told[2]) != len(kept):
        return False
    if not all([out_right(kept, tie, k, ways) for tie, ways in zip(gone, told[1])]):
        return False
    return all([kept_right(n, kept, tie, k, side) for tie, side in zip(kept, told[2])])


def out_right(kept, tie, k, ways):
    if tie[1] == tie[2]:
        return ways == [[] for time in range(k)]
    return len(ways) == k and ways_right(kept, tie[1], tie[2], ways)


def kept_right(n, kept, tie, k, side):
    if not is_side(n, side):
        return False
    over = rim(kept, side)
    return tie[0] in over and len(over) <= k
